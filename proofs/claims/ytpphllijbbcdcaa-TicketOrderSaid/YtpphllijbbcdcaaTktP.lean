/-
  What holds of a lock of numbers, whatever is picked: plain facts.
-/
import Derived.Test.YtpphllijbbcdcaaTold8
namespace Go.Proofs.Ytpphllijbbcdcaa
open Go.RowKit

theorem wrap_small {x : Int} (h0 : -1000000000 ≤ x) (h1 : x ≤ 1000000000) : wrap64 x = x := by
  unfold wrap64
  omega

def upd (hs : Nat → HD) (k : Nat) (h : HD) : Nat → HD := fun j => if j = k then h else hs j
theorem upd_at (hs : Nat → HD) (k : Nat) (h : HD) : upd hs k h k = h := by simp [upd]
theorem upd_ne {hs : Nat → HD} {k j : Nat} {h : HD} (e : j ≠ k) : upd hs k h j = hs j := by simp [upd, e]

/-- The words of one lock, and the hands that are at it. -/
structure TInv (lo : Int) (p1 p2 : Nat) (n : Int) (s : MS) (hs : Nat → HD) : Prop where
  a1 : mp4.at_ 3 lo 1 = p1
  a2 : mp4.at_ 3 lo 2 = p2
  l0 : 0 ≤ lo
  l1 : lo < 2
  q1 : p1 < 48
  q2 : p2 < 48
  ne : p1 ≠ p2
  len : s.zs.length = 48
  hand : ∀ k, k < 4 → (hs k).t = (k : Int) ∧ (hs k).l = lo ∧ ((hs k).s = 0 ∨ (hs k).s = 1 ∧ s.zs.getD p2 0 ≤ (hs k).x ∧ (hs k).x < s.zs.getD p1 0 ∨ (hs k).s = 9 ∧ (hs k).x = s.zs.getD p2 0 ∧ s.zs.getD p2 0 < s.zs.getD p1 0)
  dist : ∀ j k, j < 4 → k < 4 → j ≠ k → (hs j).s ≠ 0 → (hs k).s ≠ 0 → (hs j).x ≠ (hs k).x
  b0 : 0 ≤ s.zs.getD p2 0
  b1 : s.zs.getD p2 0 ≤ s.zs.getD p1 0
  b2 : s.zs.getD p1 0 ≤ n

theorem TInv.may {lo : Int} {p1 p2 : Nat} {n : Int} {s : MS} {hs : Nat → HD} (h : TInv lo p1 p2 n s hs) {k : Nat} (hk : k < 4) : mayH mp4 (hs k) := by
  obtain ⟨e1, e2, _⟩ := h.hand k hk
  refine ⟨mp4_ok, ?_, ?_, ?_, ?_⟩ <;> simp only [e1, e2, mp4]
  · omega
  · omega
  · exact h.l0
  · exact h.l1

theorem vAt_nat {s : MS} {p : Nat} (h : p < s.zs.length) : s.vAt (p : Int) = s.zs.getD p 0 := by
  have hh : s.has (p : Int) := ⟨by omega, by omega⟩
  simp only [MS.vAt, if_pos hh]
  rfl
theorem added_nat {s : MS} {p : Nat} {v : Int} (h : p < s.zs.length) : (s.added (p : Int) v).zs = s.zs.set p (wrap64 (s.zs.getD p 0 + v)) := by
  have hh : s.has (p : Int) := ⟨by omega, by omega⟩
  simp only [MS.added, if_pos hh]
  rfl
theorem stored_nat {s : MS} {p : Nat} {v : Int} (h : p < s.zs.length) : (s.stored (p : Int) v).zs = s.zs.set p v := by
  have hh : s.has (p : Int) := ⟨by omega, by omega⟩
  simp only [MS.stored, if_pos hh]
  rfl
theorem loaded_zs (s : MS) (p : Int) : (s.loaded p).zs = s.zs := by unfold MS.loaded; split <;> simp [MS.acc]
theorem getD_set_same {l : List Int} {p : Nat} {v : Int} (h : p < l.length) : (l.set p v).getD p 0 = v := by simp [h]
theorem getD_set_other {l : List Int} {p q : Nat} {v : Int} (h : p ≠ q) : (l.set p v).getD q 0 = l.getD q 0 := by simp [List.getElem?_set_ne h]

theorem TInv.mono {lo : Int} {p1 p2 : Nat} {n n' : Int} {s : MS} {hs : Nat → HD} (h : TInv lo p1 p2 n s hs) (hn : n ≤ n') : TInv lo p1 p2 n' s hs :=
  { h with b2 := Int.le_trans h.b2 hn }

theorem TInv.take {lo : Int} {p1 p2 : Nat} {n : Int} {s : MS} {hs : Nat → HD} (h : TInv lo p1 p2 n s hs) {k : Nat} (hk : k < 4) (hn : n ≤ 1000000) :
    TInv lo p1 p2 (n + 1) (tkTake mp4 s (hs k)).2 (upd hs k (tkTake mp4 s (hs k)).1) := by
  have hmay := h.may hk
  obtain ⟨e1, e2, e3⟩ := h.hand k hk
  have hl1 : p1 < s.zs.length := by rw [h.len]; exact h.q1
  have hl2 : p2 < s.zs.length := by rw [h.len]; exact h.q2
  unfold tkTake
  rw [if_pos hmay, e2, h.a1, h.a2]
  have hb0 := h.b0
  have hb1 := h.b1
  have hb2 := h.b2
  rcases e3 with e3 | ⟨e3, e4, e5⟩ | ⟨e3, e4, e5⟩
  · rw [if_pos e3]
    have hz := added_nat (s := s) (v := 1) hl1
    rw [wrap_small (by omega) (by omega)] at hz
    have g1 : (s.added (p1 : Int) 1).zs.getD p1 0 = s.zs.getD p1 0 + 1 := by rw [hz, getD_set_same hl1]
    have g2 : (s.added (p1 : Int) 1).zs.getD p2 0 = s.zs.getD p2 0 := by rw [hz, getD_set_other h.ne]
    refine ⟨h.a1, h.a2, h.l0, h.l1, h.q1, h.q2, h.ne, by rw [hz]; simp [h.len], fun j hj => ?_, fun i j hi hj hne h1 h2 => ?_, by rw [g2]; exact hb0, by rw [g1, g2]; omega, by rw [g1]; omega⟩
    · rw [g1, g2]
      by_cases ej : j = k
      · subst ej
        rw [upd_at, vAt_nat hl1]
        exact ⟨e1, rfl, .inr (.inl ⟨rfl, hb1, by simp only; omega⟩)⟩
      · rw [upd_ne ej]
        obtain ⟨f1, f2, f3⟩ := h.hand j hj
        refine ⟨f1, f2, ?_⟩
        rcases f3 with f3 | ⟨f3, f4, f5⟩ | ⟨f3, f4, f5⟩
        · exact .inl f3
        · exact .inr (.inl ⟨f3, f4, by omega⟩)
        · exact .inr (.inr ⟨f3, f4, by omega⟩)
    · have far : ∀ j, j < 4 → (hs j).s ≠ 0 → (hs j).x < s.zs.getD p1 0 := fun j hj hs0 => by
        obtain ⟨_, _, f3⟩ := h.hand j hj
        rcases f3 with f3 | ⟨f3, f4, f5⟩ | ⟨f3, f4, f5⟩ <;> omega
      by_cases ei : i = k
      · subst ei
        rw [upd_at, upd_ne (Ne.symm hne), vAt_nat hl1]
        rw [upd_ne (Ne.symm hne)] at h2
        have := far j hj h2
        simp only
        omega
      · by_cases ej : j = k
        · subst ej
          rw [upd_at, upd_ne ei, vAt_nat hl1]
          rw [upd_ne ei] at h1
          have := far i hi h1
          simp only
          omega
        · rw [upd_ne ei, upd_ne ej]
          rw [upd_ne ei] at h1
          rw [upd_ne ej] at h2
          exact h.dist i j hi hj hne h1 h2
  · rw [if_neg (by omega), if_pos e3, vAt_nat hl2]
    have hz := loaded_zs s (p2 : Int)
    refine ⟨h.a1, h.a2, h.l0, h.l1, h.q1, h.q2, h.ne, by rw [hz]; exact h.len, fun j hj => ?_, fun i j hi hj hne h1 h2 => ?_, by rw [hz]; exact hb0, by rw [hz]; exact hb1, by rw [hz]; omega⟩
    · rw [hz]
      by_cases ej : j = k
      · subst ej
        rw [upd_at]
        by_cases hx : s.zs.getD p2 0 = (hs j).x
        · rw [if_pos hx]
          exact ⟨e1, rfl, .inr (.inr ⟨rfl, hx.symm, by omega⟩)⟩
        · rw [if_neg hx]
          exact ⟨e1, e2, .inr (.inl ⟨e3, e4, e5⟩)⟩
      · rw [upd_ne ej]
        exact h.hand j hj
    · have same : ∀ j, (upd hs k (if s.zs.getD p2 0 = (hs k).x then ⟨(hs k).t, lo, 9, (hs k).rd, (hs k).x⟩ else hs k) j).x = (hs j).x ∧ ((upd hs k (if s.zs.getD p2 0 = (hs k).x then ⟨(hs k).t, lo, 9, (hs k).rd, (hs k).x⟩ else hs k) j).s ≠ 0 → (hs j).s ≠ 0) := fun j => by
        by_cases ej : j = k
        · subst ej
          rw [upd_at]
          by_cases hx : s.zs.getD p2 0 = (hs j).x
          · rw [if_pos hx]
            exact ⟨rfl, fun _ => by omega⟩
          · rw [if_neg hx]
            exact ⟨rfl, fun h => h⟩
        · rw [upd_ne ej]
          exact ⟨rfl, fun h => h⟩
      rw [(same i).1, (same j).1]
      exact h.dist i j hi hj hne ((same i).2 h1) ((same j).2 h2)
  · rw [if_neg (by omega), if_neg (by omega)]
    have hu : upd hs k (hs k) = hs := by
      funext j
      by_cases ej : j = k
      · subst ej; exact upd_at _ _ _
      · exact upd_ne ej
    rw [hu]
    exact h.mono (by omega)

theorem TInv.drop {lo : Int} {p1 p2 : Nat} {n : Int} {s : MS} {hs : Nat → HD} (h : TInv lo p1 p2 n s hs) {k : Nat} (hk : k < 4) (h9 : (hs k).s = 9) (hn : n ≤ 1000000) :
    TInv lo p1 p2 (n + 1) (tkDrop mp4 s (hs k)).2 (upd hs k (tkDrop mp4 s (hs k)).1) := by
  have hmay := h.may hk
  obtain ⟨e1, e2, e3⟩ := h.hand k hk
  have hl1 : p1 < s.zs.length := by rw [h.len]; exact h.q1
  have hl2 : p2 < s.zs.length := by rw [h.len]; exact h.q2
  unfold tkDrop
  rw [if_pos ⟨hmay, h9⟩, e2, h.a2]
  have hb0 := h.b0
  have hb1 := h.b1
  have hb2 := h.b2
  rcases e3 with e3 | ⟨e3, e4, e5⟩ | ⟨_, e4, e5⟩
  · omega
  · omega
  · have hz := stored_nat (s := s) (v := wrap64 ((hs k).x + 1)) hl2
    rw [wrap_small (by omega) (by omega)] at hz ⊢
    have g1 : (s.stored (p2 : Int) ((hs k).x + 1)).zs.getD p1 0 = s.zs.getD p1 0 := by rw [hz, getD_set_other (Ne.symm h.ne)]
    have g2 : (s.stored (p2 : Int) ((hs k).x + 1)).zs.getD p2 0 = (hs k).x + 1 := by rw [hz, getD_set_same hl2]
    refine ⟨h.a1, h.a2, h.l0, h.l1, h.q1, h.q2, h.ne, by rw [hz]; simp [h.len], fun j hj => ?_, fun i j hi hj hne h1 h2 => ?_, by rw [g2]; omega, by rw [g1, g2]; omega, by rw [g1]; omega⟩
    · rw [g1, g2]
      by_cases ej : j = k
      · subst ej
        rw [upd_at]
        exact ⟨e1, rfl, .inl rfl⟩
      · rw [upd_ne ej]
        obtain ⟨f1, f2, f3⟩ := h.hand j hj
        refine ⟨f1, f2, ?_⟩
        rcases f3 with f3 | ⟨f3, f4, f5⟩ | ⟨f3, f4, f5⟩
        · exact .inl f3
        · have := h.dist j k hj hk ej (by omega) (by omega)
          exact .inr (.inl ⟨f3, by omega, f5⟩)
        · have := h.dist j k hj hk ej (by omega) (by omega)
          omega
    · have sub : ∀ j, (upd hs k ⟨(hs k).t, lo, 0, (hs k).rd, 0⟩ j).s ≠ 0 → j ≠ k := fun j hj e => by
        subst e
        rw [upd_at] at hj
        exact hj rfl
      have hi' := sub i h1
      have hj' := sub j h2
      rw [upd_ne hi', upd_ne hj']
      rw [upd_ne hi'] at h1
      rw [upd_ne hj'] at h2
      exact h.dist i j hi hj hne h1 h2

/-- How many of the first k hands hold it. -/
def heldN (hs : Nat → HD) : Nat → Nat
  | 0 => 0
  | k + 1 => heldN hs k + if (hs k).s = 9 then 1 else 0
theorem heldN_le (hs : Nat → HD) (k : Nat) : heldN hs k ≤ k := by
  induction k with
  | zero => exact Nat.le_refl _
  | succ k ih => simp only [heldN]; split <;> omega
theorem TInv.one {lo : Int} {p1 p2 : Nat} {n : Int} {s : MS} {hs : Nat → HD} (h : TInv lo p1 p2 n s hs) : heldN hs 4 ≤ 1 := by
  have key : ∀ i j, i < 4 → j < 4 → i ≠ j → (hs i).s = 9 → (hs j).s = 9 → False := fun i j hi hj hne a b => by
    have d := h.dist i j hi hj hne (by omega) (by omega)
    obtain ⟨_, _, f⟩ := h.hand i hi
    obtain ⟨_, _, g⟩ := h.hand j hj
    rcases f with f | ⟨f, _⟩ | ⟨_, f, _⟩ <;> rcases g with g | ⟨g, _⟩ | ⟨_, g, _⟩ <;> omega
  have k01 := key 0 1 (by decide) (by decide) (by decide)
  have k02 := key 0 2 (by decide) (by decide) (by decide)
  have k03 := key 0 3 (by decide) (by decide) (by decide)
  have k12 := key 1 2 (by decide) (by decide) (by decide)
  have k13 := key 1 3 (by decide) (by decide) (by decide)
  have k23 := key 2 3 (by decide) (by decide) (by decide)
  simp only [heldN]
  by_cases c0 : (hs 0).s = 9 <;> by_cases c1 : (hs 1).s = 9 <;> by_cases c2 : (hs 2).s = 9 <;> by_cases c3 : (hs 3).s = 9 <;> simp_all

end Go.Proofs.Ytpphllijbbcdcaa
