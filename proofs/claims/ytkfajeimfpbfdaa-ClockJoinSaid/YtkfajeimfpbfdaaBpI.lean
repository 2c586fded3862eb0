/-
  Three bumps by picks: what holds, in plain words.
-/
import Derived.Test.YtkfajeimfpbfdaaBmpN
import Derived.Test.YtkfajeimfpbfdaaBk3
namespace Go.Proofs.Ytkfajeimfpbfdaa
open Go.RowKit

/-- Three bumps of Kind K at a word of value v, behind j picks: what was made (out), what stood at each one's begin (beg), what stood at the begin of those under way (fr). -/
structure BI (K v : Int) (j : Nat) (bs : Nat → BD) (fr : Nat → Int) (out beg : List Int) : Prop where
  v0 : 0 ≤ v
  v1 : v ≤ 2 * (j : Int)
  st : ∀ t, t < 3 → bs t = ⟨K, 0, 0, 0⟩ ∨ (K ≠ 1 ∧ bs t = ⟨K, 1, fr t, 0⟩ ∧ 0 ≤ fr t ∧ fr t ≤ v)
  len : beg.length = out.length
  few : out.length ≤ j
  up : ∀ i, i < out.length → 0 ≤ beg.getD i 0 ∧ beg.getD i 0 < out.getD i 0 ∧ out.getD i 0 ≤ v
  own : K ≠ 2 → v = (if K = 1 then 1 else 2) * (out.length : Int) ∧ ∀ i, i < out.length → out.getD i 0 = (if K = 1 then 1 else 2) * ((i : Int) + 1)
  join : K = 2 → v ≤ (j : Int)

theorem BI.start (K : Int) : BI K 0 0 (fun _ => ⟨K, 0, 0, 0⟩) (fun _ => 0) [] [] where
  v0 := by omega
  v1 := by omega
  st := fun t _ => .inl rfl
  len := rfl
  few := by simp
  up := fun i h => by simp at h
  own := fun _ => ⟨by simp, fun i h => by simp at h⟩
  join := fun _ => by omega

theorem getD_app {l : List Int} {x : Int} {i : Nat} (h : i < (l ++ [x]).length) : (i < l.length ∧ (l ++ [x]).getD i 0 = l.getD i 0) ∨ (i = l.length ∧ (l ++ [x]).getD i 0 = x) := by
  simp only [List.length_append, List.length_singleton] at h
  by_cases hl : i < l.length
  · exact .inl ⟨hl, by simp [hl, List.getElem?_append_left hl]⟩
  · obtain rfl : i = l.length := by omega
    exact .inr ⟨rfl, by simp⟩

/-- One has ended. -/
theorem BI.done {K v v' : Int} {j : Nat} {bs : Nat → BD} {fr : Nat → Int} {out beg : List Int} (h : BI K v j bs fr out beg) {k : Nat} {fr' : Nat → Int} {x : Int} (hx0 : 0 ≤ fr' k) (hx : fr' k < x) (hxv : x ≤ v') (hv : v ≤ v')
    (hfr : ∀ t, t ≠ k → fr' t = fr t) (hv2 : v' ≤ v + 2) (hown : K ≠ 2 → v' = v + (if K = 1 then 1 else 2) ∧ x = v') (hj : K = 2 → v' ≤ v + 1) (bs' : Nat → BD) (hbk : bs' k = ⟨K, 0, 0, 0⟩) (hbs : ∀ t, t ≠ k → bs' t = bs t) :
    BI K v' (j + 1) bs' fr' (out ++ [x]) (beg ++ [fr' k]) where
  v0 := by have := h.v0; omega
  v1 := by have := h.v1; push_cast; omega
  st := fun t ht => by
    by_cases e : t = k
    · rw [e, hbk]; exact .inl rfl
    · rw [hbs t e, hfr t e]
      rcases h.st t ht with g | ⟨g1, g2, g3, g4⟩
      · exact .inl g
      · exact .inr ⟨g1, g2, g3, by omega⟩
  len := by simp [h.len]
  few := by have := h.few; simp; omega
  up := fun i hi => by
    rcases getD_app hi with ⟨hl, e⟩ | ⟨e0, e⟩
    · rw [e]
      have e2 : (beg ++ [fr' k]).getD i 0 = beg.getD i 0 := by
        have hb : i < beg.length := by have := h.len; omega
        simp [hb, List.getElem?_append_left hb]
      rw [e2]
      obtain ⟨a, b, c⟩ := h.up i hl
      exact ⟨a, b, by omega⟩
    · rw [e]
      have e2 : (beg ++ [fr' k]).getD i 0 = fr' k := by have := h.len; simp [show i = beg.length by omega]
      rw [e2]
      exact ⟨hx0, hx, hxv⟩
  own := fun hK => by
    obtain ⟨o1, o2⟩ := h.own hK
    obtain ⟨p1, p2⟩ := hown hK
    have hv' : v' = (if K = 1 then 1 else 2) * ((out.length : Int) + 1) := by
      rw [p1, o1]
      split <;> omega
    refine ⟨by simp only [List.length_append, List.length_singleton]; rw [hv']; push_cast; rfl, fun i hi => ?_⟩
    rcases getD_app hi with ⟨hl, e⟩ | ⟨e0, e⟩
    · rw [e]; exact o2 i hl
    · rw [e, p2, hv', e0]
  join := fun hK => by have := h.join hK; have := hj hK; push_cast; omega
/-- One has gone on. -/
theorem BI.on {K v : Int} {j : Nat} {bs : Nat → BD} {fr : Nat → Int} {out beg : List Int} (h : BI K v j bs fr out beg) {k : Nat} {fr' : Nat → Int} (hfr : ∀ t, t ≠ k → fr' t = fr t)
    (bs' : Nat → BD) (hbk : bs' k = ⟨K, 0, 0, 0⟩ ∨ (K ≠ 1 ∧ bs' k = ⟨K, 1, fr' k, 0⟩ ∧ 0 ≤ fr' k ∧ fr' k ≤ v)) (hbs : ∀ t, t ≠ k → bs' t = bs t) : BI K v (j + 1) bs' fr' out beg where
  v0 := h.v0
  v1 := by have := h.v1; push_cast; omega
  st := fun t ht => by
    by_cases e : t = k
    · rw [e]; exact hbk
    · rw [hbs t e, hfr t e]; exact h.st t ht
  len := h.len
  few := by have := h.few; omega
  up := h.up
  own := h.own
  join := fun hK => by have := h.join hK; push_cast; omega

theorem steps_loaded {s : MS} {p : Int} (h : s.has p) : (s.loaded p).steps = wrap64 (s.steps + 1) := by simp only [MS.loaded, if_pos h, MS.acc]
theorem steps_added {s : MS} {p v : Int} (h : s.has p) : (s.added p v).steps = wrap64 (s.steps + 1) := by simp only [MS.added, if_pos h, MS.acc, MS.put]
theorem steps_swapped {s : MS} {p o v : Int} (h : s.has p) : (s.swapped p o v).steps = wrap64 (s.steps + 1) := by
  simp only [MS.swapped, if_pos h]
  split <;> simp [MS.acc, MS.put]

/-- The word that a Kind goes by. -/
def wordK (K : Int) : Int := if K = 3 then 1 else 0
/-- What a pick comes to. -/
structure BStep (K : Int) (s : MS) (j : Nat) (bs : Nat → BD) (fr' : Nat → Int) (out beg : List Int) (k : Nat) (g : BD) (s2 : MS) : Prop where
  len : s2.zs.length = 48
  steps : s2.steps = wrap64 (s.steps + 1)
  fin : g.s = 9 → BI K (s2.vAt (wordK K)) (j + 1) (updA bs k ⟨K, 0, 0, 0⟩) fr' (out ++ [g.p]) (beg ++ [fr' k])
  mid : g.s ≠ 9 → BI K (s2.vAt (wordK K)) (j + 1) (updA bs k g) fr' out beg
theorem BI.step {K : Int} (hK : K = 1 ∨ K = 2 ∨ K = 3) {s : MS} (hz : s.zs.length = 48) {j : Nat} (hj : j ≤ 1000) {bs : Nat → BD} {fr : Nat → Int} {out beg : List Int} (h : BI K (s.vAt (wordK K)) j bs fr out beg) {k : Nat} (hk : k < 3)
    {fr' : Nat → Int} (hfr : fr' = if (bs k).s = 0 then updA fr k (s.vAt (wordK K)) else fr) : BStep K s j bs fr' out beg k (bumpF mp4 s (bs k)).1 (bumpF mp4 s (bs k)).2 := by
  have hb0 := h.v0
  have hb1 := h.v1
  have hne : ∀ t, t ≠ k → fr' t = fr t := fun t ht => by
    rw [hfr]
    split
    · exact updA_ne ht
    · rfl
  have hbne : ∀ (g : BD) t, t ≠ k → updA bs k g t = bs t := fun g t ht => updA_ne ht
  rcases h.st k hk with e | ⟨hK1, e, f0, f1⟩
  · -- State 0
    have hfk : fr' k = s.vAt (wordK K) := by rw [hfr, e]; simp [updA_at]
    rw [e]
    rcases hK with rfl | rfl | rfl
    · rw [own0]
      have hv := vAt_added (has48 hz 0 (by omega)) 1
      have hwv : wrap64 (s.vAt 0 + 1) = s.vAt 0 + 1 := wrap_near (by simp [wordK] at hb0; omega) (by simp [wordK] at hb1; omega)
      have hv' : (s.added 0 1).vAt (wordK 1) = s.vAt (wordK 1) + 1 := by
        show (s.added 0 1).vAt 0 = s.vAt 0 + 1
        rw [← hwv]; exact hv
      refine ⟨by rw [len_added]; exact hz, steps_added (has48 hz 0 (by omega)), fun _ => ?_, fun h9 => absurd rfl h9⟩
      have hp : wrap64 (s.vAt 0 + 1) = s.vAt (wordK 1) + 1 := hwv
      show BI 1 ((s.added 0 1).vAt (wordK 1)) (j + 1) _ fr' (out ++ [wrap64 (s.vAt 0 + 1)]) _
      rw [hv', hp]
      exact h.done (by rw [hfk]; exact hb0) (by rw [hfk]; omega) (by omega) (by omega) hne (by omega) (fun _ => ⟨by simp, rfl⟩) (fun e => by omega) _ (updA_at _ _ _) (hbne _)
    · rw [join0]
      have hv' : (s.loaded 0).vAt (wordK 2) = s.vAt (wordK 2) := vAt_loaded _ _ _
      refine ⟨by rw [len_loaded]; exact hz, steps_loaded (has48 hz 0 (by omega)), fun h9 => absurd h9 (by show ¬ (1 : Int) = 9; decide), fun _ => ?_⟩
      show BI 2 ((s.loaded 0).vAt (wordK 2)) (j + 1) (updA bs k ⟨2, 1, s.vAt 0, 0⟩) fr' out beg
      rw [hv']
      exact h.on hne _ (.inr ⟨by omega, by rw [updA_at, hfk]; rfl, by rw [hfk]; exact hb0, by rw [hfk]; omega⟩) (hbne _)
    · have hev : s.vAt 1 % 2 = 0 := by
        have h2 : s.vAt (wordK 3) = (if (3 : Int) = 1 then 1 else 2) * (out.length : Int) := (h.own (by omega)).1
        have h3 : s.vAt 1 = 2 * (out.length : Int) := by simpa [wordK] using h2
        omega
      rw [even0 hev]
      have hv' : (s.loaded 1).vAt (wordK 3) = s.vAt (wordK 3) := vAt_loaded _ _ _
      refine ⟨by rw [len_loaded]; exact hz, steps_loaded (has48 hz 1 (by omega)), fun h9 => absurd h9 (by show ¬ (1 : Int) = 9; decide), fun _ => ?_⟩
      show BI 3 ((s.loaded 1).vAt (wordK 3)) (j + 1) (updA bs k ⟨3, 1, s.vAt 1, 0⟩) fr' out beg
      rw [hv']
      exact h.on hne _ (.inr ⟨by omega, by rw [updA_at, hfk]; rfl, by rw [hfk]; exact hb0, by rw [hfk]; omega⟩) (hbne _)
  · -- State 1
    have hfk : fr' = fr := by rw [hfr, e]; simp
    have hne' : ∀ t, t ≠ k → fr t = fr t := fun _ _ => rfl
    rw [hfk]
    clear hne hfr hfk fr'
    rw [e]
    obtain ⟨x, hx⟩ : ∃ x, fr k = x := ⟨_, rfl⟩
    rw [hx] at f0 f1 e ⊢
    rcases hK with rfl | rfl | rfl
    · exact absurd rfl hK1
    · have f1' : x ≤ s.vAt 0 := f1
      have hb1' : s.vAt 0 ≤ 2 * (j : Int) := hb1
      have hw : wrap64 (x + 1) = x + 1 := wrap_near (by omega) (by omega)
      by_cases hv : s.vAt 0 = x
      · rw [join1y hz hv, hw]
        have hv' : (s.swapped 0 x (x + 1)).vAt (wordK 2) = x + 1 := vAt_swap_yes (has48 hz 0 (by omega)) hv
        refine ⟨by rw [len_swapped]; exact hz, steps_swapped (has48 hz 0 (by omega)), fun _ => ?_, fun h9 => absurd rfl h9⟩
        show BI 2 ((s.swapped 0 x (x + 1)).vAt (wordK 2)) (j + 1) _ fr (out ++ [x + 1]) _
        rw [hv']
        have e0 : s.vAt (wordK 2) = x := hv
        exact h.done (by omega) (by omega) (by omega) (by omega) hne' (by omega) (fun hn => absurd rfl hn) (fun _ => by omega) _ (updA_at _ _ _) (hbne _)
      · rw [join1n hz hv]
        have hv' : (s.swapped 0 x (wrap64 (x + 1))).vAt (wordK 2) = s.vAt (wordK 2) := vAt_swap_no (has48 hz 0 (by omega)) hv
        refine ⟨by rw [len_swapped]; exact hz, steps_swapped (has48 hz 0 (by omega)), fun _ => ?_, fun h9 => absurd rfl h9⟩
        show BI 2 ((s.swapped 0 x (wrap64 (x + 1))).vAt (wordK 2)) (j + 1) _ fr (out ++ [s.vAt (wordK 2)]) _
        rw [hv']
        have e0 : ¬ s.vAt (wordK 2) = x := hv
        exact h.done (by omega) (by omega) (by omega) (by omega) hne' (by omega) (fun hn => absurd rfl hn) (fun _ => by omega) _ (updA_at _ _ _) (hbne _)
    · have f1' : x ≤ s.vAt 1 := f1
      have hb1' : s.vAt 1 ≤ 2 * (j : Int) := hb1
      have hw : wrap64 (x + 2) = x + 2 := wrap_near (by omega) (by omega)
      by_cases hv : s.vAt 1 = x
      · rw [even1y hz hv, hw]
        have hv' : (s.swapped 1 x (x + 2)).vAt (wordK 3) = x + 2 := vAt_swap_yes (has48 hz 1 (by omega)) hv
        refine ⟨by rw [len_swapped]; exact hz, steps_swapped (has48 hz 1 (by omega)), fun _ => ?_, fun h9 => absurd rfl h9⟩
        show BI 3 ((s.swapped 1 x (x + 2)).vAt (wordK 3)) (j + 1) _ fr (out ++ [x + 2]) _
        rw [hv']
        have e0 : s.vAt (wordK 3) = x := hv
        exact h.done (by omega) (by omega) (by omega) (by omega) hne' (by omega) (fun _ => ⟨by simp; omega, rfl⟩) (fun hn => by omega) _ (updA_at _ _ _) (hbne _)
      · rw [even1n hz hv]
        have hv' : (s.swapped 1 x (wrap64 (x + 2))).vAt (wordK 3) = s.vAt (wordK 3) := vAt_swap_no (has48 hz 1 (by omega)) hv
        refine ⟨by rw [len_swapped]; exact hz, steps_swapped (has48 hz 1 (by omega)), fun h9 => absurd h9 (by show ¬ (0 : Int) = 9; decide), fun _ => ?_⟩
        show BI 3 ((s.swapped 1 x (wrap64 (x + 2))).vAt (wordK 3)) (j + 1) (updA bs k ⟨3, 0, 0, 0⟩) fr out beg
        rw [hv']
        exact h.on hne' _ (.inl (updA_at _ _ _)) (hbne _)

end Go.Proofs.Ytkfajeimfpbfdaa
