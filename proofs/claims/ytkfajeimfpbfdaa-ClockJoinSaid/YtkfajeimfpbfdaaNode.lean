/-
  THE CONTRACTS OF package place: Node, Hash.
-/
import Derived.Test.YtkfajeimfpbfdaaPlc
import Derived.Laws.BitsAllLaws
import Derived.Laws.BitsLemmas
namespace Go.Proofs.Ytkfajeimfpbfdaa
open Go.RowKit

theorem ofInt_small (a : Nat) (ha : a < 9223372036854775808) : (BitVec.ofInt 64 (a : Int)).toNat = a := by
  rw [BitVec.ofInt_natCast, BitVec.toNat_ofNat]; exact Nat.mod_eq_of_lt (by omega)
/-- Exclusive or of two numbers not below 0. -/
theorem xor_small (a b : Nat) (ha : a < 9223372036854775808) (hb : b < 9223372036854775808) : bits .xor .i64 (a : Int) (b : Int) = ((a ^^^ b : Nat) : Int) := by
  have hx : a ^^^ b < 2 ^ 63 := Nat.xor_lt_two_pow (by omega) (by omega)
  show IntKind.i64.wrap ((BitVec.ofInt 64 (a : Int) ^^^ BitVec.ofInt 64 (b : Int)).toNat : Int) = _
  rw [BitVec.toNat_xor, ofInt_small a ha, ofInt_small b hb, IntKind.wrap_i64]
  omega
theorem hash_num (n : Nat) (s : Int) (hn : n < 9223372036854775808) (hs : 1 ≤ s) : (bits .xor .i64 (n : Int) ((n : Int) / 16)).tmod s = (((n ^^^ (n >>> 4)) % s.toNat : Nat) : Int) := by
  obtain ⟨k, rfl⟩ : ∃ k : Nat, s = k := ⟨s.toNat, by omega⟩
  have e : (n : Int) / (16 : Int) = ((n >>> 4 : Nat) : Int) := by
    rw [Nat.shiftRight_eq_div_pow]
    show (n : Int) / 16 = ((n / 16 : Nat) : Int)
    omega
  rw [e, xor_small n (n >>> 4) hn (by rw [Nat.shiftRight_eq_div_pow]; omega), Int.tmod_eq_emod_of_nonneg (by omega), Int.toNat_natCast]
  rfl

theorem PM.size_range (m : PM) : 0 ≤ m.size ∧ m.size ≤ 314 := by
  by_cases h : m.Ok
  · have := m.size_bounds h; omega
  · simp [PM.size, h]

end Go.Proofs.Ytkfajeimfpbfdaa
