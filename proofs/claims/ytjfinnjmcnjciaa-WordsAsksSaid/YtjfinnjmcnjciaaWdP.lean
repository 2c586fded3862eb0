/-
  What an attempt watches of a lock, in plain words: the words' places, who holds it, what is added; both sides' contracts.
-/
import Derived.Test.YtjfinnjmcnjciaaBoth
import Derived.Test.YtjfinnjmcnjciaaTold
namespace Go.Proofs.Ytjfinnjmcnjciaa
open Go.RowKit

theorem wd_and1 (x : Int) : bits .and .i64 x 1 = x % 2 := by
  unfold bits
  show IntKind.i64.wrap (((BitVec.ofInt 64 x &&& BitVec.ofInt 64 1).toNat : Nat) : Int) = x % 2
  have e1 : (BitVec.ofInt 64 1).toNat = 1 := by decide
  rw [BitVec.toNat_and, e1, Nat.and_one_is_mod, BitVec.toNat_ofInt, IntKind.wrap_i64]
  omega
theorem wd_and63 (x : Int) : bits .and .i64 x 63 = x % 64 := by
  unfold bits
  show IntKind.i64.wrap (((BitVec.ofInt 64 x &&& BitVec.ofInt 64 63).toNat : Nat) : Int) = x % 64
  have e1 : (BitVec.ofInt 64 63).toNat = 2 ^ 6 - 1 := by decide
  rw [BitVec.toNat_and, e1, Nat.and_two_pow_sub_one_eq_mod, BitVec.toNat_ofInt, IntKind.wrap_i64]
  omega
theorem wd_and0 (x : Int) : bits .and .i64 x 0 = 0 := by
  unfold bits
  show IntKind.i64.wrap (((BitVec.ofInt 64 x &&& BitVec.ofInt 64 0).toNat : Nat) : Int) = 0
  have e1 : (BitVec.ofInt 64 0).toNat = 0 := by decide
  rw [BitVec.toNat_and, e1, Nat.and_zero, IntKind.wrap_i64]
  rfl
theorem wd_or63 : bits .or .i64 62 1 = 63 := by decide
theorem wd_or1 : bits .or .i64 0 1 = 1 := by decide

/-- Both words of a lock: none, or one behind the other. -/
theorem lock_two (m : PM) (i : Int) : (m.at_ 3 i 4 = -1 ∧ m.at_ 3 i 5 = -1) ∨ (0 ≤ m.at_ 3 i 4 ∧ m.at_ 3 i 4 ≤ 249 ∧ m.at_ 3 i 5 = m.at_ 3 i 4 + 1) := by
  by_cases h : m.Ok ∧ 0 ≤ i ∧ i < m.many 3
  · obtain ⟨ho, h0, h1⟩ := h
    have e4 := PM.at_in ho (k := 3) (i := i) (p := 4) h0 h1 (by decide) (by decide)
    have e5 := PM.at_in ho (k := 3) (i := i) (p := 5) h0 h1 (by decide) (by decide)
    have hl : m.many 3 = m.l := rfl
    have hf : m.from_ 3 = 2 + m.s := rfl
    have he : PM.each 3 = 6 := rfl
    rw [e4, e5, he, hf]
    rw [hl] at h1
    have := ho.s1
    have := ho.s2
    have := ho.l2
    omega
  · left
    have : ¬ m.Ok ∨ i < 0 ∨ m.many 3 ≤ i := by
      by_cases ho : m.Ok
      · right
        by_cases h0 : i < 0
        · exact .inl h0
        · right
          by_cases h1 : m.many 3 ≤ i
          · exact h1
          · exact absurd ⟨ho, by omega, by omega⟩ h
      · exact .inl ho
    rcases this with h | h | h
    · exact ⟨PM.at_out (.inl h), PM.at_out (.inl h)⟩
    · exact ⟨PM.at_out (.inr (.inl h)), PM.at_out (.inr (.inl h))⟩
    · exact ⟨PM.at_out (.inr (.inr (.inl h))), PM.at_out (.inr (.inr (.inl h)))⟩

def watL (a : Int) (rw read : Bool) : List Int := if a < 0 then [] else if (rw && !read) = true then [a, a + 1] else [a]
def heldF (a p v : Int) : Bool := if a < 0 then false else if p = a then decide (v % 2 = 1) else if p = a + 1 then decide (v % 64 ≠ 0) else false
def markP (a : Int) (read : Bool) : Int := if a < 0 then -1 else if read = true then a + 1 else a
def markN (a : Int) (read leave : Bool) : Int := if a < 0 then 0 else if read = true then (if leave = true then -1 else 65) else 1

/-- What 'Watched' hands over: a row of its own. -/
def WatRet (w : World) (l : List Int) (e : Ending) (w' : World) : Prop := ∃ p c, e = .returned (.slice p l.length c) ∧ IntRow w' p l.length l ∧ Below w.heap.size w w'
theorem watL_len (a : Int) (rw read : Bool) : (watL a rw read).length ≤ 2 := by
  unfold watL
  split
  · simp
  · split <;> simp

end Go.Proofs.Ytjfinnjmcnjciaa
