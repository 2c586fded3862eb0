/-
  Where the words of a map stand: each place is one thing's, and no two things have one.
-/
import Derived.Test.YtjfinnjmcnjciaaPlc
namespace Go.Proofs.Ytjfinnjmcnjciaa
open Go.RowKit

/-- The kind of the word at a. -/
def IsKind (m : PM) (a : Int) (k : Nat) : Prop := k < 9 ∧ m.from_ k ≤ a ∧ (k = 8 ∨ a < m.from_ (k + 1))

/-- There is such a word: the p-th part of the i-th thing of kind k. -/
structure PM.Has (m : PM) (k i p : Nat) : Prop where
  kind : k < 9
  many : (i : Int) < m.many k
  part : (p : Int) < PM.each k

/-- Where it stands. -/
def PM.loc (m : PM) (k i p : Nat) : Int := m.from_ k + i * PM.each k + p

theorem PM.mono (m : PM) (h : m.Ok) : ∀ (j i : Nat), i ≤ j → j ≤ 8 → m.from_ i ≤ m.from_ j := by
  intro j
  induction j with
  | zero =>
    intro i h1 _
    obtain rfl : i = 0 := by omega
    exact Int.le_refl _
  | succ j ih =>
    intro i h1 h2
    rcases Nat.lt_or_ge i (j + 1) with h3 | h3
    · have := ih i (by omega) (by omega)
      obtain ⟨_, _, b1, b2, b3, b4⟩ := m.bounds h j (by omega)
      have hn := m.from_next j (by omega)
      have : 0 ≤ m.many j * PM.each j := Int.mul_nonneg b1 (by omega)
      omega
    · obtain rfl : i = j + 1 := by omega
      exact Int.le_refl _

theorem PM.each_is (k : Nat) (hk : k < 9) : PM.each k = 1 ∨ PM.each k = 2 ∨ PM.each k = 6 := by
  have : k = 0 ∨ k = 1 ∨ k = 2 ∨ k = 3 ∨ k = 4 ∨ k = 5 ∨ k = 6 ∨ k = 7 ∨ k = 8 := by omega
  rcases this with rfl | rfl | rfl | rfl | rfl | rfl | rfl | rfl | rfl <;> simp [PM.each]

theorem PM.loc_range {m : PM} (h : m.Ok) {k i p : Nat} (hh : m.Has k i p) : m.from_ k ≤ m.loc k i p ∧ m.loc k i p < m.from_ k + m.many k * PM.each k ∧ 0 ≤ m.loc k i p ∧ m.loc k i p < m.size := by
  obtain ⟨h1, h2, h3⟩ := hh
  obtain ⟨c1, _, b1, b2, b3, b4⟩ := m.bounds h k h1
  have hs := m.size_ok h
  have hle : m.from_ k + m.many k * PM.each k ≤ m.size := by
    rcases Nat.lt_or_ge k 8 with h8 | h8
    · rw [← m.from_next k h8, hs]
      have := m.mono h 8 (k + 1) (by omega) (Nat.le_refl _)
      have := h.d1
      omega
    · obtain rfl : k = 8 := by omega
      rw [hs]
      exact Int.le_refl _
  unfold PM.loc
  rcases PM.each_is k h1 with e | e | e <;> rw [e] at h3 hle ⊢ <;> omega

theorem PM.kind_one {m : PM} (h : m.Ok) {k i p k' : Nat} (hh : m.Has k i p) (hk : IsKind m (m.loc k i p) k') : k' = k := by
  obtain ⟨r1, r2, _⟩ := m.loc_range h hh
  obtain ⟨q1, q2, q3⟩ := hk
  have hk9 := hh.kind
  rcases Nat.lt_trichotomy k' k with hlt | heq | hgt
  · exfalso
    rcases q3 with q3 | q3
    · omega
    · have := m.mono h k (k' + 1) (by omega) (by omega)
      omega
  · exact heq
  · exfalso
    have := m.mono h k' (k + 1) (by omega) (by omega)
    have hn := m.from_next k (by omega)
    omega

/-- Each place is one's. -/
theorem PM.loc_all {m : PM} (h : m.Ok) {a : Int} (h0 : 0 ≤ a) (h1 : a < m.size) : ∃ k i p, m.Has k i p ∧ m.loc k i p = a := by
  have hk : ∃ k, IsKind m a k := by
    by_cases c1 : a < m.from_ 1
    · exact ⟨0, by omega, h0, .inr c1⟩
    by_cases c2 : a < m.from_ 2
    · exact ⟨1, by omega, by omega, .inr c2⟩
    by_cases c3 : a < m.from_ 3
    · exact ⟨2, by omega, by omega, .inr c3⟩
    by_cases c4 : a < m.from_ 4
    · exact ⟨3, by omega, by omega, .inr c4⟩
    by_cases c5 : a < m.from_ 5
    · exact ⟨4, by omega, by omega, .inr c5⟩
    by_cases c6 : a < m.from_ 6
    · exact ⟨5, by omega, by omega, .inr c6⟩
    by_cases c7 : a < m.from_ 7
    · exact ⟨6, by omega, by omega, .inr c7⟩
    by_cases c8 : a < m.from_ 8
    · exact ⟨7, by omega, by omega, .inr c8⟩
    · exact ⟨8, by omega, by omega, .inl rfl⟩
  obtain ⟨k, q1, q2, q3⟩ := hk
  have hlt : a < m.from_ k + m.many k * PM.each k := by
    rcases q3 with rfl | q3
    · have := m.size_ok h
      have e : m.many 8 * PM.each 8 = m.d * 2 := rfl
      omega
    · rcases Nat.lt_or_ge k 8 with h8 | h8
      · rw [← m.from_next k h8]; exact q3
      · obtain rfl : k = 8 := by omega
        have := m.size_ok h
        have e : m.many 8 * PM.each 8 = m.d * 2 := rfl
        omega
  obtain ⟨_, _, b1, b2, b3, b4⟩ := m.bounds h k q1
  generalize hM : m.many k = M at *
  refine ⟨k, ((a - m.from_ k) / PM.each k).toNat, ((a - m.from_ k) % PM.each k).toNat, ⟨q1, ?_, ?_⟩, ?_⟩
  · rw [hM]; rcases PM.each_is k q1 with e | e | e <;> rw [e] at hlt ⊢ <;> omega
  · rcases PM.each_is k q1 with e | e | e <;> rw [e] at hlt ⊢ <;> omega
  · unfold PM.loc; rcases PM.each_is k q1 with e | e | e <;> rw [e] at hlt ⊢ <;> omega


end Go.Proofs.Ytjfinnjmcnjciaa
