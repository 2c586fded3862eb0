/-
  A queue of four hands: what Drop makes of it; how far it is to the end.
-/
import Derived.Test.YtmcmajndcbobpaaMcOrdS
namespace Go.Proofs.Ytmcmajndcbobpaa
open Go.RowKit

section
variable {R : Nat} {s : MS} {hs : Nat → HD} {n : Nat → Nat} {q sw hd : List Nat} {t : Nat}

theorem PI.wait6S {v : VS} {b : Nat} {r : List Nat} (h : PI v (t :: b :: r) n R sw hd) (hs : v.st t = 6) (hb : v.st b = 4) : StepC v (t :: b :: r) n v (t :: b :: r) n R t := by
  intro a c hac
  have hbt : b ≠ t := fun e => (List.nodup_cons.1 h.qi.nd).1 (by simp [e])
  refine ⟨fun ee => ?_, fun _ => .inl hac⟩
  obtain ⟨e, k1, k2⟩ := hac
  rcases k2 with ⟨g, _⟩ | ⟨g, _⟩ | ⟨g, _⟩ | ⟨_, d, r', hr, ⟨_, g2, _⟩ | ⟨g1, g2, _⟩⟩ | ⟨g, _⟩
  · omega
  · omega
  · omega
  · have : b = d := by simp at hr; exact hr.1
    exact absurd (this.trans (g2.symm.trans ee.symm)) hbt
  · have : b = d := by simp at hr; exact hr.1
    rw [← this] at g1
    omega
  · omega

theorem SI.drop (h : SI R s hs n q sw hd) (ht : t < 4) (hst : 5 < (hs t).s) : DropTo R s hs n q sw hd t (mcDrop mp4 s (hs t)) := by
  have hmay := h.may ht
  obtain ⟨e1, e2⟩ := h.hand t ht
  have h0 := (h.range ht).2
  have hlen := h.len
  have hp := h.pi
  obtain ⟨r, rfl⟩ := hp.qi.first ht hst
  have hbody := hp.qi.body
  have hlink := hp.qi.link
  have htail := hp.qi.tailIs
  have hl : (if 5 < (hs t).s then sw = hd ++ r else sw = hd ++ t :: r) := hp.lst
  have hc : hd.length = sumN n + (if 5 < (hs t).s then 1 else 0) := hp.cnt
  rw [if_pos hst] at hl hc
  have vst : (VS.of s hs).st t = (hs t).s := rfl
  have hne : ∀ b r', r = b :: r' → b ≠ t := fun b r' e e' => (List.nodup_cons.1 hp.qi.nd).1 (by rw [e, e']; simp)
  have lst' : ∀ s' x' : Int, 5 < s' → LstQ { VS.of s hs with st := updW (VS.of s hs).st t s', x := updW (VS.of s hs).x t x' } (t :: r) sw hd := fun s' x' h5 => by
    show (if 5 < updW (VS.of s hs).st t s' t then sw = hd ++ r else _)
    rw [updW_at, if_pos h5]
    exact hl
  have cnt' : ∀ s' x' : Int, 5 < s' → hd.length = sumN n + busy { VS.of s hs with st := updW (VS.of s hs).st t s', x := updW (VS.of s hs).x t x' } (t :: r) := fun s' x' h5 => by
    show hd.length = sumN n + (if 5 < updW (VS.of s hs).st t s' t then 1 else 0)
    rw [updW_at, if_pos h5]
    exact hc
  have hu : upd hs t (hs t) = hs := by
    funext j
    by_cases e : j = t
    · rw [e, upd_at]
    · rw [upd_ne e]
  -- the link is read
  have hz := loaded_zs s ((25 + 4 * t : Nat) : Int)
  have hvl : ∀ h' : HD, VS.of (s.loaded ((25 + 4 * t : Nat) : Int)) (upd hs t h') = { VS.of s hs with st := updW (VS.of s hs).st t h'.s, x := updW (VS.of s hs).x t h'.x } := fun h' => by
    refine VS.eq (of_st _ _ _ _) (of_x _ _ _ _) ?_ ?_ ?_
    · show gF (s.loaded ((25 + 4 * t : Nat) : Int)).zs = _; rw [hz]; rfl
    · show kF (s.loaded ((25 + 4 * t : Nat) : Int)).zs = _; rw [hz]; rfl
    · show (s.loaded ((25 + 4 * t : Nat) : Int)).zs.getD 4 0 = _; rw [hz]; rfl
  obtain ⟨_, kl⟩ := loaded_n (s := s) (p := 25 + 4 * t) (by omega)
  -- the one behind has told: it is called
  have told : ∀ st0 : Int, (hs t).s = st0 → (st0 = 9 ∨ st0 = 6) → ¬ s.zs.getD (25 + 4 * t) 0 = 0 →
      DropTo R s hs n (t :: r) sw hd t (⟨t, 0, 8, (hs t).rd, s.zs.getD (25 + 4 * t) 0⟩, s.loaded ((25 + 4 * t : Nat) : Int)) := fun st0 hs0 h96 hk => by
    rcases hlink with ⟨hk0, _⟩ | ⟨b, r', hr, hkb, hb5⟩
    · exact absurd hk0 hk
    · have hb := hne b r' hr
      have hS := hp.headS (s' := 8) (x' := s.zs.getD (25 + 4 * t) 0) (hd' := hd) (e' := 1)
        (.inr (.inr (.inr (.inr ⟨updW_at _ _ _, b, r', hr, (updW_at _ _ _).trans hkb, by simp only [updW_ne hb]; exact hb5⟩))))
        (lst' _ _ (by decide)) (cnt' _ _ (by decide))
        (fun a e hc => by
          rcases hc with ⟨g, _⟩ | ⟨_, g, g2⟩ | ⟨g, _⟩ | ⟨_, d, r2, hr2, ⟨g1, _, _⟩ | ⟨_, g, g2⟩⟩ | ⟨g, _⟩
          · rw [vst] at g; omega
          · exact ⟨g, by omega⟩
          · rw [vst] at g; omega
          · have : b = d := by rw [hr] at hr2; simp at hr2; exact hr2.1
            rw [← this] at g1; omega
          · exact ⟨g, by omega⟩
          · rw [vst] at g; omega)
        ⟨t, .inr (.inr (.inr (.inr ⟨updW_at _ _ _, rfl, rfl⟩)))⟩
      exact DropTo.of (t :: r) _ (by rw [len_loaded]; exact hlen) (h.up e1.symm e2.symm ht) (hvl _) hS.1 hS.2 (if_neg (show ¬ (8 : Int) = 0 by decide)) kl
  rcases (show (hs t).s = 9 ∨ (hs t).s = 6 ∨ (hs t).s = 7 ∨ (hs t).s = 8 by omega) with hs0 | hs0 | hs0 | hs0
  · rw [mcD9 hmay hs0, e1, e2, link_at ht, vAt_nat (by omega)]
    by_cases hk : s.zs.getD (25 + 4 * t) 0 = 0
    · rw [if_pos hk]
      have hS := hp.headS (s' := 7) (x' := (hs t).x) (hd' := hd) (e' := 4) (.inr (.inr (.inl (updW_at _ _ _)))) (lst' _ _ (by decide)) (cnt' _ _ (by decide))
        (fun a e hc => by
          rcases hc with ⟨g, _⟩ | ⟨_, g, g2⟩ | ⟨g, _⟩ | ⟨g, _⟩ | ⟨g, _⟩
          · rw [vst] at g; omega
          · exact ⟨g, by omega⟩
          · rw [vst] at g; omega
          · rw [vst] at g; omega
          · rw [vst] at g; omega)
        ⟨t, .inr (.inr (.inl ⟨updW_at _ _ _, rfl, rfl⟩))⟩
      exact DropTo.of (t :: r) _ (by rw [len_loaded]; exact hlen) (h.up e1.symm e2.symm ht) (hvl _) hS.1 hS.2 (if_neg (show ¬ (7 : Int) = 0 by decide)) kl
    · rw [if_neg hk]
      exact told 9 hs0 (.inl rfl) hk
  · rw [mcD6 hmay hs0, e1, e2, link_at ht, vAt_nat (by omega)]
    by_cases hk : s.zs.getD (25 + 4 * t) 0 = 0
    · rw [if_pos hk]
      have hrne : r ≠ [] := by
        rcases hbody.2.1 with ⟨g, _⟩ | g | g | ⟨_, g⟩ | ⟨g, _⟩
        · rw [vst] at g; omega
        · rw [vst] at g; omega
        · rw [vst] at g; omega
        · exact g
        · rw [vst] at g; omega
      have hv : VS.of (s.loaded ((25 + 4 * t : Nat) : Int)) (upd hs t (hs t)) = VS.of s hs := by
        rw [hvl]
        exact VS.eq (updW_same _ _) (updW_same _ _) rfl rfl rfl
      rcases hlink with ⟨_, hr | ⟨b, r', hr, hb4⟩⟩ | ⟨b, r', hr, hkb, _⟩
      · exact absurd hr hrne
      · subst hr
        exact DropTo.of (t :: b :: r') _ (by rw [len_loaded]; exact hlen) (by rw [hu]; exact h.hand) hv hp (hp.wait6S hs0 hb4) (if_neg (fun e => absurd (hs0.symm.trans e) (by decide))) kl
      · exact absurd (hkb.symm.trans hk) (idq_ne b)
    · rw [if_neg hk]
      exact told 6 hs0 (.inr rfl) hk
  · rw [mcD7 hmay hs0, e1, e2, tail_at, id_at ht, vAt_nat (by omega)]
    by_cases hT : s.zs.getD 4 0 = idq t
    · rw [if_pos hT]
      obtain rfl := htail.1 hT
      obtain ⟨k0, _, _, k3⟩ := swapped_y (s := s) (p := 4) (v := 0) (by omega) hT
      have hv : VS.of (s.swapped ((4 : Nat) : Int) (idq t) 0) (upd hs t ⟨t, 0, 0, (hs t).rd, (hs t).x⟩) = { VS.of s hs with st := updW (VS.of s hs).st t 0, x := updW (VS.of s hs).x t (hs t).x, T := 0 } := by
        refine VS.eq (of_st _ _ _ _) (of_x _ _ _ _) ?_ ?_ ?_
        · show gF (s.swapped ((4 : Nat) : Int) (idq t) 0).zs = _; rw [k0, gF_set4]; rfl
        · show kF (s.swapped ((4 : Nat) : Int) (idq t) 0).zs = _; rw [k0, kF_set4]; rfl
        · show (s.swapped ((4 : Nat) : Int) (idq t) 0).zs.getD 4 0 = _; rw [k0, getD_set_same (by omega)]
      have hS := hp.leaveS hs0 (hs t).x
      exact DropTo.of [] _ (by rw [len_swapped]; exact hlen) (h.up e1.symm e2.symm ht) hv hS.1 hS.2 (if_pos rfl) k3
    · rw [if_neg hT]
      obtain ⟨k0, _, _, k3⟩ := swapped_no (s := s) (p := 4) (v := 0) (by omega) hT
      have hv : VS.of (s.swapped ((4 : Nat) : Int) (idq t) 0) (upd hs t ⟨t, 0, 6, (hs t).rd, (hs t).x⟩) = { VS.of s hs with st := updW (VS.of s hs).st t 6, x := updW (VS.of s hs).x t (hs t).x } := by
        refine VS.eq (of_st _ _ _ _) (of_x _ _ _ _) ?_ ?_ ?_
        · show gF (s.swapped ((4 : Nat) : Int) (idq t) 0).zs = _; rw [k0]; rfl
        · show kF (s.swapped ((4 : Nat) : Int) (idq t) 0).zs = _; rw [k0]; rfl
        · show (s.swapped ((4 : Nat) : Int) (idq t) 0).zs.getD 4 0 = _; rw [k0]; rfl
      cases r with
      | nil => exact absurd (htail.2 rfl) hT
      | cons b r =>
        have hb := hne b r rfl
        have hk : ∃ a' e', e' < 4 ∧ HC { VS.of s hs with st := updW (VS.of s hs).st t 6, x := updW (VS.of s hs).x t (hs t).x } t (b :: r) a' e' := by
          rcases (hbody.2.2.mem b (by simp)).2 with g | g
          · exact ⟨b, 3, by decide, .inr (.inr (.inr (.inl ⟨updW_at _ _ _, b, r, rfl, .inl ⟨by simp only [updW_ne hb]; exact g, rfl, rfl⟩⟩)))⟩
          · exact ⟨t, 2, by decide, .inr (.inr (.inr (.inl ⟨updW_at _ _ _, b, r, rfl, .inr ⟨by simp only [updW_ne hb]; exact g, rfl, rfl⟩⟩)))⟩
        obtain ⟨a', e', he4, hk⟩ := hk
        have hS := hp.headS (s' := 6) (x' := (hs t).x) (hd' := hd) (e' := e') (.inr (.inr (.inr (.inl ⟨updW_at _ _ _, by simp⟩)))) (lst' _ _ (by decide)) (cnt' _ _ (by decide))
          (fun a e hc => by
            rcases hc with ⟨g, _⟩ | ⟨g, _⟩ | ⟨_, g, g2⟩ | ⟨g, _⟩ | ⟨g, _⟩
            · rw [vst] at g; omega
            · rw [vst] at g; omega
            · exact ⟨g, by omega⟩
            · rw [vst] at g; omega
            · rw [vst] at g; omega)
          ⟨a', hk⟩
        exact DropTo.of (t :: b :: r) _ (by rw [len_swapped]; exact hlen) (h.up e1.symm e2.symm ht) hv hS.1 hS.2 (if_neg (show ¬ (6 : Int) = 0 by decide)) k3
  · rw [mcD8 hmay hs0, e1, e2]
    have h8 : ∃ b r', r = b :: r' ∧ (hs t).x = idq b ∧ (VS.of s hs).st b = 5 := by
      rcases hbody.2.1 with ⟨g, _⟩ | g | g | ⟨g, _⟩ | ⟨_, g⟩
      · rw [vst] at g; omega
      · rw [vst] at g; omega
      · rw [vst] at g; omega
      · rw [vst] at g; omega
      · exact g
    obtain ⟨b, r', rfl, hx, hb5⟩ := h8
    have hb4 := hp.qi.lt b (by simp)
    rw [hx, nodeF_at hb4, gate_at hb4, if_pos (by omega)]
    have hv : VS.of (s.stored ((24 + 4 * b : Nat) : Int) 0) (upd hs t ⟨t, 0, 0, (hs t).rd, 0⟩) = { VS.of s hs with st := updW (VS.of s hs).st t 0, x := updW (VS.of s hs).x t 0, g := updW (VS.of s hs).g b 0 } := by
      have hz := stored_nat (s := s) (p := 24 + 4 * b) (v := 0) (by omega)
      refine VS.eq (of_st _ _ _ _) (of_x _ _ _ _) ?_ ?_ ?_
      · show gF (s.stored ((24 + 4 * b : Nat) : Int) 0).zs = _; rw [hz, gF_setg hlen hb4]; rfl
      · show kF (s.stored ((24 + 4 * b : Nat) : Int) 0).zs = _; rw [hz, kF_setg]; rfl
      · show (s.stored ((24 + 4 * b : Nat) : Int) 0).zs.getD 4 0 = _; rw [hz, getD_set_other (by omega)]; rfl
    obtain ⟨_, k2⟩ := stored_n (s := s) (p := 24 + 4 * b) (v := 0) (by omega)
    have hS := hp.passS hs0 hb5 0
    exact DropTo.of (b :: r') _ (by rw [len_stored]; exact hlen) (h.up e1.symm e2.symm ht) hv hS.1 hS.2 (if_pos rfl) k2

theorem SI.start (R : Nat) (hR : 0 < R) : SI R (MS.new (zrow 48)) (fun j => if j < 4 then ⟨j, 0, 0, false, 0⟩ else h0) (fun _ => 0) [] [] [] := by
  have hz : ∀ p, (MS.new (zrow 48)).zs.getD p 0 = 0 := fun p => by
    show (List.replicate 48 (0 : Int)).getD p 0 = 0
    rw [List.getD_eq_getElem?_getD, List.getElem?_replicate]
    split <;> rfl
  refine ⟨zrow_len 48, fun t ht => by rw [if_pos ht]; exact ⟨rfl, rfl⟩, ⟨⟨fun t ht => absurd ht (by simp), by simp, fun t ht _ => .inl (by show (if t < 4 then (⟨t, 0, 0, false, 0⟩ : HD) else h0).s = 0; rw [if_pos ht]), hz 4⟩, fun _ _ => Nat.zero_le _, fun t ht hs => absurd (by show (if t < 4 then (⟨t, 0, 0, false, 0⟩ : HD) else h0).s = 0; rw [if_pos ht]) hs, rfl, rfl⟩⟩

/-- So many steps at most until it is one's turn, from the i-th on. -/
def distN (i a : Nat) : Nat := (a + 4 - i % 4) % 4
/-- How far it is, at the j-th step, where the picks end behind the len-th. -/
def Pot (v : VS) (q : List Nat) (n : Nat → Nat) (R len j : Nat) : Prop := j ≤ len ∨ remN n R = 0 ∨ ∃ a c, Cost v q n R a c ∧ 4 * c + distN j a + (j - len) ≤ 400

theorem Pot.step {v v' : VS} {q' : List Nat} {n' : Nat → Nat} {len j : Nat} (h : Pot v q n R len j) {sw0 hd0 : List Nat} (hq : PI v q n R sw0 hd0) (hp' : PI v' q' n' R sw hd) (hR : R ≤ 3) (hj : j % 4 = t ∨ j < len) (hs : StepC v q n v' q' n' R t) (hn : remN n R = 0 → remN n' R = 0) : Pot v' q' n' R len (j + 1) := by
  by_cases hlt : j + 1 ≤ len
  · exact .inl hlt
  by_cases h0 : remN n' R = 0
  · exact .inr (.inl h0)
  have hrle := remN_le n' R
  by_cases hjl : j < len
  · obtain ⟨a, c, k1, k2⟩ := hp'.costs h0
    refine .inr (.inr ⟨a, c, k1, ?_⟩)
    have : distN (j + 1) a ≤ 3 := by unfold distN; omega
    omega
  · have hjt : j % 4 = t := by omega
    have key : ∃ a c, Cost v q n R a c ∧ 4 * c + distN j a + (j - len) ≤ 400 := by
      have h0' : remN n R ≠ 0 := fun e => h0 (hn e)
      have hrle' := remN_le n R
      rcases h with h | h | h
      · obtain ⟨a, c, k1, k2⟩ := hq.costs h0'
        refine ⟨a, c, k1, ?_⟩
        have : distN j a ≤ 3 := by unfold distN; omega
        omega
      · exact absurd h h0'
      · exact h
    obtain ⟨a, c, k1, k2⟩ := key
    have ha := k1.lt hq.qi
    obtain ⟨s1, s2⟩ := hs a c k1
    have better : Better v' q' n' R c → Pot v' q' n' R len (j + 1) := fun hb => by
      rcases hb with hb | ⟨a', c', k3, k4⟩
      · exact .inr (.inl hb)
      · refine .inr (.inr ⟨a', c', k4, ?_⟩)
        have : distN (j + 1) a' ≤ 3 := by unfold distN; omega
        omega
    by_cases e : t = a
    · exact better (s1 e)
    · rcases s2 e with k3 | k3
      · refine .inr (.inr ⟨a, c, k3, ?_⟩)
        have : distN (j + 1) a + 1 ≤ distN j a := by unfold distN; omega
        omega
      · exact better k3
/-- One that is done is passed by. -/
theorem Pot.skip {v : VS} {len j : Nat} (h : Pot v q n R len j) (hp : PI v q n R sw hd) (hR : R ≤ 3) (ht : t < 4) (hj : j % 4 = t ∨ j < len) (hn : n t = R) : Pot v q n R len (j + 1) := by
  refine h.step hp hp hR hj (fun a c hac => ⟨fun e => ?_, fun _ => .inl hac⟩) id
  subst e
  cases q with
  | nil => exact absurd hac.2.1 (by omega)
  | cons b r => obtain ⟨e, _, k⟩ := hac; exact absurd (hp.memlt k.mem) (by omega)
theorem Pot.done {v : VS} {len : Nat} (h : Pot v q n R len (len + 400)) (hp : PI v q n R sw hd) : remN n R = 0 := by
  rcases h with h | h | ⟨a, c, k1, k2⟩
  · omega
  · exact h
  · have := k1.pos hp; omega
end

end Go.Proofs.Ytmcmajndcbobpaa
