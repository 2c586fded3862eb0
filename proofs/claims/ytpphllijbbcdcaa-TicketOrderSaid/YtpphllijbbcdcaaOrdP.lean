/-
  Who comes first has it first: plain facts on four hands that all have drawn a number.
-/
import Derived.Test.YtpphllijbbcdcaaHands
namespace Go.Proofs.Ytpphllijbbcdcaa
open Go.RowKit

theorem take_drop_perm (l : List Nat) (k : Nat) (hk : k < l.length) : (l.getD k 0 :: (l.take k ++ l.drop (k + 1))).Perm l := by
  have e : l = l.take k ++ l.getD k 0 :: l.drop (k + 1) := by
    rw [List.getD_eq_getElem?_getD, List.getElem?_eq_getElem hk]
    simp
  have h := (List.perm_middle (a := l.getD k 0) (l₁ := l.take k) (l₂ := l.drop (k + 1))).symm
  rw [← e] at h
  exact h

/-- While the hands draw: who has one (cs, in their order), who has none (fs). -/
structure FInv (cs fs : List Nat) (s : MS) (hs : Nat → HD) : Prop where
  perm : (cs ++ fs).Perm [0, 1, 2, 3]
  len : s.zs.length = 48
  nx : s.zs.getD 5 0 = (cs.length : Int)
  sv : s.zs.getD 6 0 = 0
  hand : ∀ i, i < cs.length → hs (cs.getD i 0) = ⟨(cs.getD i 0 : Nat), 0, 1, false, (i : Int)⟩

theorem FInv.count {cs fs : List Nat} {s : MS} {hs : Nat → HD} (h : FInv cs fs s hs) : cs.length + fs.length = 4 := by
  have := h.perm.length_eq
  simpa using this
theorem FInv.nodup {cs fs : List Nat} {s : MS} {hs : Nat → HD} (h : FInv cs fs s hs) : (cs ++ fs).Nodup := h.perm.symm.nodup (by decide)
theorem FInv.mem {cs fs : List Nat} {s : MS} {hs : Nat → HD} (h : FInv cs fs s hs) {t : Nat} (ht : t ∈ cs ++ fs) : t < 4 := by
  have := h.perm.subset ht
  simp at this
  omega
theorem getD_mem {l : List Nat} {i : Nat} (h : i < l.length) : l.getD i 0 ∈ l := by
  rw [List.getD_eq_getElem?_getD, List.getElem?_eq_getElem h]
  exact List.getElem_mem h
theorem getD_inj {l : List Nat} (hl : l.Nodup) {i j : Nat} (hi : i < l.length) (hj : j < l.length) (h : l.getD i 0 = l.getD j 0) : i = j := by
  rw [List.getD_eq_getElem?_getD, List.getD_eq_getElem?_getD, List.getElem?_eq_getElem hi, List.getElem?_eq_getElem hj] at h
  exact (List.getElem_inj hl).1 h
theorem getD_left {l r : List Nat} {i : Nat} (h : i < l.length) : (l ++ r).getD i 0 = l.getD i 0 := by
  rw [List.getD_eq_getElem?_getD, List.getElem?_append_left h, ← List.getD_eq_getElem?_getD]
theorem getD_last {l : List Nat} {t : Nat} : (l ++ [t]).getD l.length 0 = t := by simp

theorem FInv.start (hs : Nat → HD) : FInv [] [0, 1, 2, 3] (MS.new (zrow 48)) hs := by
  have hz : ∀ p, (MS.new (zrow 48)).zs.getD p 0 = 0 := fun p => by
    show (List.replicate 48 (0 : Int)).getD p 0 = 0
    rw [List.getD_eq_getElem?_getD, List.getElem?_replicate]
    split <;> rfl
  exact ⟨List.Perm.refl _, zrow_len 48, by rw [hz]; rfl, hz 6, fun i hi => absurd hi (Nat.not_lt_zero i)⟩

theorem may_hand {t : Nat} (ht : t < 4) (s x : Int) : mayH mp4 ⟨(t : Int), 0, s, false, x⟩ := ⟨mp4_ok, by simp, by simp; omega, by simp, by simp⟩
theorem lock00 : mp4.at_ 3 0 1 = ((5 : Nat) : Int) ∧ mp4.at_ 3 0 2 = ((6 : Nat) : Int) := ⟨by decide, by decide⟩

/-- One more draws its number. -/
theorem FInv.draw {cs fs : List Nat} {s : MS} {hs : Nat → HD} (h : FInv cs fs s hs) {k : Nat} (hk : k < fs.length) :
    (tkTake mp4 s ⟨(fs.getD k 0 : Nat), 0, 0, false, 0⟩).1 = ⟨(fs.getD k 0 : Nat), 0, 1, false, (cs.length : Int)⟩ ∧
    FInv (cs ++ [fs.getD k 0]) (fs.take k ++ fs.drop (k + 1)) (tkTake mp4 s ⟨(fs.getD k 0 : Nat), 0, 0, false, 0⟩).2 (upd hs (fs.getD k 0) (tkTake mp4 s ⟨(fs.getD k 0 : Nat), 0, 0, false, 0⟩).1) := by
  have ht := h.mem (List.mem_append_right cs (getD_mem hk))
  have hnd := h.nodup
  have hcnt := h.count
  have hl : (5 : Nat) < s.zs.length := by rw [h.len]; decide
  have e1 : tkTake mp4 s ⟨(fs.getD k 0 : Nat), 0, 0, false, 0⟩ = (⟨(fs.getD k 0 : Nat), 0, 1, false, (cs.length : Int)⟩, s.added ((5 : Nat) : Int) 1) := by
    unfold tkTake
    rw [if_pos (may_hand ht 0 0)]
    simp only [if_true]
    rw [lock00.1, vAt_nat hl, h.nx]
  rw [e1]
  have hz := added_nat (s := s) (p := 5) (v := 1) hl
  rw [h.nx, wrap_small (by omega) (by omega)] at hz
  refine ⟨rfl, ⟨?_, by rw [hz]; simp [h.len], ?_, ?_, fun i hi => ?_⟩⟩
  · have h1 := take_drop_perm fs k hk
    have h2 : ((cs ++ [fs.getD k 0]) ++ (fs.take k ++ fs.drop (k + 1))) = cs ++ (fs.getD k 0 :: (fs.take k ++ fs.drop (k + 1))) := by simp
    rw [h2]
    exact (h1.append_left cs).trans h.perm
  · rw [hz, getD_set_same hl]; simp
  · rw [hz, getD_set_other (by decide)]; exact h.sv
  · simp only [List.length_append, List.length_cons, List.length_nil] at hi
    rcases Nat.lt_or_ge i cs.length with hi' | hi'
    · rw [getD_left hi']
      have hne : cs.getD i 0 ≠ fs.getD k 0 := by
        intro e
        have := (List.nodup_append.1 hnd).2.2 _ (getD_mem hi') _ (getD_mem hk)
        exact this e
      rw [upd_ne hne]
      exact h.hand i hi'
    · obtain rfl : i = cs.length := by omega
      rw [getD_last, upd_at]

/-- All have a number; p steps of the eight (each takes it, and drops it) are done. -/
structure OInv (cs : List Nat) (p : Nat) (s : MS) (hs : Nat → HD) : Prop where
  perm : cs.Perm [0, 1, 2, 3]
  len : s.zs.length = 48
  nx : s.zs.getD 5 0 = 4
  sv : s.zs.getD 6 0 = ((p / 2 : Nat) : Int)
  hand : ∀ i, i < 4 → hs (cs.getD i 0) = if i < p / 2 then ⟨(cs.getD i 0 : Nat), 0, 0, false, 0⟩ else if i = p / 2 ∧ p % 2 = 1 then ⟨(cs.getD i 0 : Nat), 0, 9, false, (i : Int)⟩ else ⟨(cs.getD i 0 : Nat), 0, 1, false, (i : Int)⟩
  p8 : p ≤ 8

theorem FInv.ready {cs : List Nat} {s : MS} {hs : Nat → HD} (h : FInv cs [] s hs) : OInv cs 0 s hs := by
  have hc := h.count
  simp at hc
  refine ⟨by simpa using h.perm, h.len, by rw [h.nx, hc]; rfl, by rw [h.sv]; rfl, fun i hi => ?_, by omega⟩
  rw [if_neg (by omega), if_neg (by omega)]
  exact h.hand i (by omega)

section
variable {cs : List Nat} {p : Nat} {s : MS} {hs : Nat → HD}
theorem OInv.cl (h : OInv cs p s hs) : cs.length = 4 := by simpa using h.perm.length_eq
theorem OInv.nodup (h : OInv cs p s hs) : cs.Nodup := h.perm.symm.nodup (by decide)
theorem OInv.who (h : OInv cs p s hs) {t : Nat} (ht : t < 4) : ∃ i, i < 4 ∧ cs.getD i 0 = t := by
  have hm : t ∈ cs := h.perm.symm.subset (by simp; omega)
  obtain ⟨i, hi, e⟩ := List.getElem_of_mem hm
  refine ⟨i, by rw [h.cl] at hi; exact hi, ?_⟩
  rw [List.getD_eq_getElem?_getD, List.getElem?_eq_getElem hi, ← e]
  rfl
theorem OInv.lt (h : OInv cs p s hs) {i : Nat} (hi : i < 4) : cs.getD i 0 < 4 := by
  have := h.perm.subset (getD_mem (l := cs) (i := i) (by rw [h.cl]; exact hi))
  generalize cs.getD i 0 = t at *
  simp at this
  omega
theorem OInv.inj (h : OInv cs p s hs) {i j : Nat} (hi : i < 4) (hj : j < 4) (e : cs.getD i 0 = cs.getD j 0) : i = j := getD_inj h.nodup (by rw [h.cl]; exact hi) (by rw [h.cl]; exact hj) e

/-- A hand that holds it drops it. -/
theorem OInv.drop (h : OInv cs p s hs) {i : Nat} (hi : i < 4) (h9 : (hs (cs.getD i 0)).s = 9) :
    p < 8 ∧ i = p / 2 ∧ p % 2 = 1 ∧ OInv cs (p + 1) (tkDrop mp4 s (hs (cs.getD i 0))).2 (upd hs (cs.getD i 0) (tkDrop mp4 s (hs (cs.getD i 0))).1) := by
  have hh := h.hand i hi
  have hc : i = p / 2 ∧ p % 2 = 1 := by
    by_cases c1 : i < p / 2
    · rw [hh, if_pos c1] at h9; simp only at h9; omega
    · by_cases c2 : i = p / 2 ∧ p % 2 = 1
      · exact c2
      · rw [hh, if_neg c1, if_neg c2] at h9; simp only at h9; omega
  rw [if_neg (by omega), if_pos hc] at hh
  have hl : (6 : Nat) < s.zs.length := by rw [h.len]; decide
  have e1 : tkDrop mp4 s (hs (cs.getD i 0)) = (⟨(cs.getD i 0 : Nat), 0, 0, false, 0⟩, s.stored ((6 : Nat) : Int) ((i : Int) + 1)) := by
    rw [hh]
    unfold tkDrop
    rw [if_pos ⟨may_hand (h.lt hi) 9 i, rfl⟩, lock00.2, show wrap64 ((i : Int) + 1) = (i : Int) + 1 from wrap_small (by omega) (by omega)]
  rw [e1]
  have hz := stored_nat (s := s) (p := 6) (v := (i : Int) + 1) hl
  refine ⟨by omega, hc.1, hc.2, ⟨h.perm, by rw [hz]; simp [h.len], by rw [hz, getD_set_other (by decide)]; exact h.nx, ?_, fun j hj => ?_, by omega⟩⟩
  · rw [hz, getD_set_same hl]
    have : (p + 1) / 2 = i + 1 := by omega
    rw [this]
    rfl
  · by_cases e : cs.getD j 0 = cs.getD i 0
    · have := h.inj hj hi e
      subst this
      rw [upd_at, if_pos (by omega)]
    · rw [upd_ne e]
      have hne : j ≠ i := fun e' => e (by rw [e'])
      rw [h.hand j hj]
      by_cases c1 : j < p / 2
      · rw [if_pos c1, if_pos (by omega)]
      · rw [if_neg c1, if_neg (by omega), if_neg (by omega), if_neg (by omega)]

/-- A hand that waits looks whether its number is called. -/
theorem OInv.take (h : OInv cs p s hs) {i : Nat} (hi : i < 4) (h1 : (hs (cs.getD i 0)).s = 1) :
    ((tkTake mp4 s (hs (cs.getD i 0))).1.s = 9 ∧ p < 8 ∧ i = p / 2 ∧ p % 2 = 0 ∧ OInv cs (p + 1) (tkTake mp4 s (hs (cs.getD i 0))).2 (upd hs (cs.getD i 0) (tkTake mp4 s (hs (cs.getD i 0))).1)) ∨
    ((tkTake mp4 s (hs (cs.getD i 0))).1.s = 1 ∧ p / 2 < i ∧ OInv cs p (tkTake mp4 s (hs (cs.getD i 0))).2 (upd hs (cs.getD i 0) (tkTake mp4 s (hs (cs.getD i 0))).1)) := by
  have hh := h.hand i hi
  have hc : ¬ i < p / 2 ∧ ¬ (i = p / 2 ∧ p % 2 = 1) := by
    by_cases c1 : i < p / 2
    · rw [hh, if_pos c1] at h1; simp only at h1; omega
    · by_cases c2 : i = p / 2 ∧ p % 2 = 1
      · rw [hh, if_neg c1, if_pos c2] at h1; simp only at h1; omega
      · exact ⟨c1, c2⟩
  rw [if_neg hc.1, if_neg hc.2] at hh
  have hl : (6 : Nat) < s.zs.length := by rw [h.len]; decide
  have hp8 := h.p8
  have e1 : tkTake mp4 s (hs (cs.getD i 0)) = (if ((p / 2 : Nat) : Int) = (i : Int) then ⟨(cs.getD i 0 : Nat), 0, 9, false, (i : Int)⟩ else ⟨(cs.getD i 0 : Nat), 0, 1, false, (i : Int)⟩, s.loaded ((6 : Nat) : Int)) := by
    rw [hh]
    unfold tkTake
    rw [if_pos (may_hand (h.lt hi) 1 i)]
    simp only [if_true]
    rw [if_neg (by decide), lock00.2, vAt_nat hl, h.sv]
  have hz := loaded_zs s ((6 : Nat) : Int)
  rw [e1]
  by_cases ci : i = p / 2
  · left
    rw [if_pos (by omega)]
    refine ⟨rfl, by omega, ci, by omega, ⟨h.perm, by rw [hz]; exact h.len, by rw [hz]; exact h.nx, by rw [hz, h.sv]; congr 1; omega, fun j hj => ?_, by omega⟩⟩
    by_cases e : cs.getD j 0 = cs.getD i 0
    · have := h.inj hj hi e
      subst this
      rw [upd_at, if_neg (by omega), if_pos (by omega)]
    · rw [upd_ne e, h.hand j hj]
      have hne : j ≠ i := fun e' => e (by rw [e'])
      by_cases c1 : j < p / 2
      · rw [if_pos c1, if_pos (by omega)]
      · rw [if_neg c1, if_neg (by omega), if_neg (by omega), if_neg (by omega)]
  · right
    rw [if_neg (by omega)]
    refine ⟨rfl, by omega, ⟨h.perm, by rw [hz]; exact h.len, by rw [hz]; exact h.nx, by rw [hz, h.sv], fun j hj => ?_, by omega⟩⟩
    by_cases e : cs.getD j 0 = cs.getD i 0
    · have := h.inj hj hi e
      subst this
      rw [upd_at, if_neg hc.1, if_neg hc.2]
    · rw [upd_ne e]
      exact h.hand j hj

theorem OInv.kinds (h : OInv cs p s hs) {i : Nat} (hi : i < 4) : (hs (cs.getD i 0)).s = 0 ∧ i < p / 2 ∨ (hs (cs.getD i 0)).s = 9 ∨ (hs (cs.getD i 0)).s = 1 := by
  rw [h.hand i hi]
  by_cases c1 : i < p / 2
  · rw [if_pos c1]; exact .inl ⟨rfl, c1⟩
  · rw [if_neg c1]
    split
    · exact .inr (.inl rfl)
    · exact .inr (.inr rfl)
theorem OInv.idle (h : OInv cs 8 s hs) : s.vAt (mp4.at_ 3 0 1) = s.vAt (mp4.at_ 3 0 2) := by
  rw [lock00.1, lock00.2, vAt_nat (by rw [h.len]; decide), vAt_nat (by rw [h.len]; decide), h.nx, h.sv]
  rfl

/-- How far it is, at most, to the end. -/
def far (cs : List Nat) (p i : Nat) : Nat := if 8 ≤ p then 0 else 4 * (8 - p) + (cs.getD (p / 2) 0 + 4 - i % 4) % 4 + 1
theorem far_le (cs : List Nat) (p i : Nat) : far cs p i ≤ 36 := by unfold far; split <;> omega
theorem far_zero {i : Nat} (h : far cs p i = 0) (hp : p ≤ 8) : p = 8 := by unfold far at h; split at h <;> omega
/-- The one whose turn it is comes nearer; each other one's turn goes by. -/
theorem far_step (cs : List Nat) (p i : Nat) : far cs (p + 1) (i + 1) + 1 ≤ far cs p i ∨ 8 ≤ p := by
  by_cases h8 : 8 ≤ p
  · exact .inr h8
  · left
    have h2 : far cs p i = 4 * (8 - p) + (cs.getD (p / 2) 0 + 4 - i % 4) % 4 + 1 := by unfold far; rw [if_neg h8]
    rw [h2]
    unfold far
    split <;> omega
theorem far_by (hlt : cs.getD (p / 2) 0 < 4) (i : Nat) (hne : i % 4 ≠ cs.getD (p / 2) 0) : far cs p (i + 1) + 1 ≤ far cs p i ∨ 8 ≤ p := by
  by_cases h8 : 8 ≤ p
  · exact .inr h8
  · left
    unfold far
    rw [if_neg h8, if_neg h8]
    omega
end

end Go.Proofs.Ytpphllijbbcdcaa
