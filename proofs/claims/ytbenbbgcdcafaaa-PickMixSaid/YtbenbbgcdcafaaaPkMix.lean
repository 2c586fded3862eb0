/-
  pick.Mix: its numbers.
-/
import Derived.Test.YtbenbbgcdcafaaaPkTold
import Derived.Laws.Bits64b
namespace Go.Proofs.Ytbenbbgcdcafaaa
open Go.RowKit
set_option linter.unusedVariables false

theorem and15 (y : Int) (h0 : 0 ≤ y) (h1 : y < 18446744073709551616) : bits .and .u64 y 15 = y % 16 := by
  obtain ⟨Y, rfl⟩ := Int.eq_ofNat_of_zero_le h0
  rw [show (15 : Int) = ((15 : Nat) : Int) from rfl, bits_and_u64_nat Y 15 (by omega) (by decide), show (15 : Nat) = 2 ^ 4 - 1 from rfl, Nat.and_two_pow_sub_one_eq_mod]
  rfl
theorem and1 (y : Int) (h0 : 0 ≤ y) (h1 : y < 18446744073709551616) : bits .and .u64 y 1 = y % 2 := by
  obtain ⟨Y, rfl⟩ := Int.eq_ofNat_of_zero_le h0
  rw [show (1 : Int) = ((1 : Nat) : Int) from rfl, bits_and_u64_nat Y 1 (by omega) (by decide), show (1 : Nat) = 2 ^ 1 - 1 from rfl, Nat.and_two_pow_sub_one_eq_mod]
  rfl

set_option maxHeartbeats 1000000 in
theorem fourBits_8 (x : Int) (w : World) (h0 : 0 ≤ x) (h1 : x ≤ 18446744073709551615) : Calls Try.prog 25 #[.int .u64 x, .int .i64 8] w fun e w' => e = .returned (.int .i64 (x / 256 % 16)) ∧ w = w' := by
  have q := and15 (x / 256) (by omega) (by omega)
  go_enter Try.func25, Try.ntmps25
  go_wp2
  go_ret
  exact ⟨rfl, by trivial⟩

set_option maxHeartbeats 1000000 in
theorem fourBits_12 (x : Int) (w : World) (h0 : 0 ≤ x) (h1 : x ≤ 18446744073709551615) : Calls Try.prog 25 #[.int .u64 x, .int .i64 12] w fun e w' => e = .returned (.int .i64 (x / 4096 % 16)) ∧ w = w' := by
  have q := and15 (x / 4096) (by omega) (by omega)
  go_enter Try.func25, Try.ntmps25
  go_wp2
  go_ret
  exact ⟨rfl, by trivial⟩

set_option maxHeartbeats 1000000 in
theorem fourBits_16 (x : Int) (w : World) (h0 : 0 ≤ x) (h1 : x ≤ 18446744073709551615) : Calls Try.prog 25 #[.int .u64 x, .int .i64 16] w fun e w' => e = .returned (.int .i64 (x / 65536 % 16)) ∧ w = w' := by
  have q := and15 (x / 65536) (by omega) (by omega)
  go_enter Try.func25, Try.ntmps25
  go_wp2
  go_ret
  exact ⟨rfl, by trivial⟩

set_option maxHeartbeats 1000000 in
theorem fourBits_20 (x : Int) (w : World) (h0 : 0 ≤ x) (h1 : x ≤ 18446744073709551615) : Calls Try.prog 25 #[.int .u64 x, .int .i64 20] w fun e w' => e = .returned (.int .i64 (x / 1048576 % 16)) ∧ w = w' := by
  have q := and15 (x / 1048576) (by omega) (by omega)
  go_enter Try.func25, Try.ntmps25
  go_wp2
  go_ret
  exact ⟨rfl, by trivial⟩

set_option maxHeartbeats 1000000 in
theorem fourBits_36 (x : Int) (w : World) (h0 : 0 ≤ x) (h1 : x ≤ 18446744073709551615) : Calls Try.prog 25 #[.int .u64 x, .int .i64 36] w fun e w' => e = .returned (.int .i64 (x / 68719476736 % 16)) ∧ w = w' := by
  have q := and15 (x / 68719476736) (by omega) (by omega)
  go_enter Try.func25, Try.ntmps25
  go_wp2
  go_ret
  exact ⟨rfl, by trivial⟩

set_option maxHeartbeats 1000000 in
theorem fourBits_40 (x : Int) (w : World) (h0 : 0 ≤ x) (h1 : x ≤ 18446744073709551615) : Calls Try.prog 25 #[.int .u64 x, .int .i64 40] w fun e w' => e = .returned (.int .i64 (x / 1099511627776 % 16)) ∧ w = w' := by
  have q := and15 (x / 1099511627776) (by omega) (by omega)
  go_enter Try.func25, Try.ntmps25
  go_wp2
  go_ret
  exact ⟨rfl, by trivial⟩

set_option maxHeartbeats 1000000 in
theorem fourBits_44 (x : Int) (w : World) (h0 : 0 ≤ x) (h1 : x ≤ 18446744073709551615) : Calls Try.prog 25 #[.int .u64 x, .int .i64 44] w fun e w' => e = .returned (.int .i64 (x / 17592186044416 % 16)) ∧ w = w' := by
  have q := and15 (x / 17592186044416) (by omega) (by omega)
  go_enter Try.func25, Try.ntmps25
  go_wp2
  go_ret
  exact ⟨rfl, by trivial⟩

set_option maxHeartbeats 1000000 in
theorem fourBits_48 (x : Int) (w : World) (h0 : 0 ≤ x) (h1 : x ≤ 18446744073709551615) : Calls Try.prog 25 #[.int .u64 x, .int .i64 48] w fun e w' => e = .returned (.int .i64 (x / 281474976710656 % 16)) ∧ w = w' := by
  have q := and15 (x / 281474976710656) (by omega) (by omega)
  go_enter Try.func25, Try.ntmps25
  go_wp2
  go_ret
  exact ⟨rfl, by trivial⟩

/-- Whose turn it is in a round of number x. -/
def turnF (x : Int) (n i : Nat) : Int := if x / 1152921504606846976 % 2 = 1 then (x / 8589934592 % n - i + n) % n else (x / 8589934592 % n + i) % n

set_option maxHeartbeats 1000000 in
theorem turn_any (x : Int) (n i : Nat) (w : World) (h0 : 0 ≤ x) (h1 : x ≤ 18446744073709551615) (hn : 1 ≤ n) (hn4 : n ≤ 4) (hi : i < n) : Calls Try.prog 24 #[.int .u64 x, .int .i64 n, .int .i64 i] w fun e w' => e = .returned (.int .i64 (turnF x n i)) ∧ w = w' := by
  have q := and1 (x / 1152921504606846976) (by omega) (by omega)
  have m0 : 0 ≤ x / 8589934592 % (n : Int) := Int.emod_nonneg _ (by omega)
  have m1 : x / 8589934592 % (n : Int) < n := Int.emod_lt_of_pos _ (by omega)
  have hn0 : ¬ n = 0 := by omega
  by_cases hd : x / 1152921504606846976 % 2 = 1
  · have HV : Hid (turnF x n i = (x / 8589934592 % n - i + n) % n) := hid (by unfold turnF; rw [if_pos hd])
    have hd2 : (x / 1152921504606846976 % 2 == 1) = true := by simpa using hd
    clear hd
    go_enter Try.func24, Try.ntmps24
    go_wp2
    go_ret
    exact ⟨by rw [HV.out]; rfl, by trivial⟩
  · have HV : Hid (turnF x n i = (x / 8589934592 % n + i) % n) := hid (by unfold turnF; rw [if_neg hd])
    have hd2 : (x / 1152921504606846976 % 2 == 1) = false := by simpa using hd
    clear hd
    go_enter Try.func24, Try.ntmps24
    go_wp2
    go_ret
    exact ⟨by rw [HV.out]; rfl, by trivial⟩

/-- The i-th pick of a round of number x. -/
def mixedF (x : Int) (n i : Nat) : Pk := ⟨turnF x n i, decide (x / 2 ^ (36 + 4 * i) % 16 = 0), x / 2 ^ (8 + 4 * i) % 16⟩

set_option maxHeartbeats 4000000 in
theorem mixed_any (x : Int) (n i : Nat) (w : World) (h0 : 0 ≤ x) (h1 : x ≤ 18446744073709551615) (hn : 1 ≤ n) (hn4 : n ≤ 4) (hi : i < n) :
    Calls Try.prog 22 #[.int .u64 x, .int .i64 n, .int .i64 i] w fun e w' => e = .returned (.agg (mixedF x n i).cs) ∧ Below w.heap.size w w' := by
  have HTN := hid (fun W => turn_any x n i W h0 h1 hn hn4 hi)
  have hc : i = 0 ∨ i = 1 ∨ i = 2 ∨ i = 3 := by omega
  clear hn hn4 hi
  rcases hc with rfl | rfl | rfl | rfl
  · have HE : Hid ((mixedF x n 0).cs = #[.int .i64 (turnF x n 0), .bool (x / 68719476736 % 16 == 0), .int .i64 (x / 256 % 16)]) := hid (by
      show (#[Value.int .i64 (turnF x n 0), .bool (decide (x / 2 ^ 36 % 16 = 0)), .int .i64 (x / 2 ^ 8 % 16)] : Array Value) = _
      rw [show (2 : Int) ^ 36 = 68719476736 from rfl, show (2 : Int) ^ 8 = 256 from rfl]
      rfl)
    have HTN2 : Hid (∀ W, Calls Try.prog 24 #[.int .u64 x, .int .i64 n, .int .i64 0] W fun e w' => e = .returned (.int .i64 (turnF x n 0)) ∧ W = w') := HTN
    generalize turnF x n 0 = tv at HE HTN2
    clear HTN
    show Calls _ _ #[.int .u64 x, .int .i64 n, .int .i64 0] _ _
    go_enter Try.func22, Try.ntmps22
    go_wp2_with (first | (go_at_call 24; (with_reducible refine (HTN2.out _).mono ?_); rintro e w' ⟨rfl, rfl⟩) | (go_at_call 25; first | ((with_reducible refine (fourBits_36 x _ h0 h1).mono ?_); rintro e w' ⟨rfl, rfl⟩) | ((with_reducible refine (fourBits_8 x _ h0 h1).mono ?_); rintro e w' ⟨rfl, rfl⟩)))
    exact bodyPost_ret (v := .agg #[.int .i64 tv, .bool (x / 68719476736 % 16 == 0), .int .i64 (x / 256 % 16)]) (by simp [results, Try.results22, go_sem]) rfl ⟨by rw [HE.out], bnew (bid w) _⟩
  · have HE : Hid ((mixedF x n 1).cs = #[.int .i64 (turnF x n 1), .bool (x / 1099511627776 % 16 == 0), .int .i64 (x / 4096 % 16)]) := hid (by
      show (#[Value.int .i64 (turnF x n 1), .bool (decide (x / 2 ^ 40 % 16 = 0)), .int .i64 (x / 2 ^ 12 % 16)] : Array Value) = _
      rw [show (2 : Int) ^ 40 = 1099511627776 from rfl, show (2 : Int) ^ 12 = 4096 from rfl]
      rfl)
    have HTN2 : Hid (∀ W, Calls Try.prog 24 #[.int .u64 x, .int .i64 n, .int .i64 1] W fun e w' => e = .returned (.int .i64 (turnF x n 1)) ∧ W = w') := HTN
    generalize turnF x n 1 = tv at HE HTN2
    clear HTN
    show Calls _ _ #[.int .u64 x, .int .i64 n, .int .i64 1] _ _
    go_enter Try.func22, Try.ntmps22
    go_wp2_with (first | (go_at_call 24; (with_reducible refine (HTN2.out _).mono ?_); rintro e w' ⟨rfl, rfl⟩) | (go_at_call 25; first | ((with_reducible refine (fourBits_40 x _ h0 h1).mono ?_); rintro e w' ⟨rfl, rfl⟩) | ((with_reducible refine (fourBits_12 x _ h0 h1).mono ?_); rintro e w' ⟨rfl, rfl⟩)))
    exact bodyPost_ret (v := .agg #[.int .i64 tv, .bool (x / 1099511627776 % 16 == 0), .int .i64 (x / 4096 % 16)]) (by simp [results, Try.results22, go_sem]) rfl ⟨by rw [HE.out], bnew (bid w) _⟩
  · have HE : Hid ((mixedF x n 2).cs = #[.int .i64 (turnF x n 2), .bool (x / 17592186044416 % 16 == 0), .int .i64 (x / 65536 % 16)]) := hid (by
      show (#[Value.int .i64 (turnF x n 2), .bool (decide (x / 2 ^ 44 % 16 = 0)), .int .i64 (x / 2 ^ 16 % 16)] : Array Value) = _
      rw [show (2 : Int) ^ 44 = 17592186044416 from rfl, show (2 : Int) ^ 16 = 65536 from rfl]
      rfl)
    have HTN2 : Hid (∀ W, Calls Try.prog 24 #[.int .u64 x, .int .i64 n, .int .i64 2] W fun e w' => e = .returned (.int .i64 (turnF x n 2)) ∧ W = w') := HTN
    generalize turnF x n 2 = tv at HE HTN2
    clear HTN
    show Calls _ _ #[.int .u64 x, .int .i64 n, .int .i64 2] _ _
    go_enter Try.func22, Try.ntmps22
    go_wp2_with (first | (go_at_call 24; (with_reducible refine (HTN2.out _).mono ?_); rintro e w' ⟨rfl, rfl⟩) | (go_at_call 25; first | ((with_reducible refine (fourBits_44 x _ h0 h1).mono ?_); rintro e w' ⟨rfl, rfl⟩) | ((with_reducible refine (fourBits_16 x _ h0 h1).mono ?_); rintro e w' ⟨rfl, rfl⟩)))
    exact bodyPost_ret (v := .agg #[.int .i64 tv, .bool (x / 17592186044416 % 16 == 0), .int .i64 (x / 65536 % 16)]) (by simp [results, Try.results22, go_sem]) rfl ⟨by rw [HE.out], bnew (bid w) _⟩
  · have HE : Hid ((mixedF x n 3).cs = #[.int .i64 (turnF x n 3), .bool (x / 281474976710656 % 16 == 0), .int .i64 (x / 1048576 % 16)]) := hid (by
      show (#[Value.int .i64 (turnF x n 3), .bool (decide (x / 2 ^ 48 % 16 = 0)), .int .i64 (x / 2 ^ 20 % 16)] : Array Value) = _
      rw [show (2 : Int) ^ 48 = 281474976710656 from rfl, show (2 : Int) ^ 20 = 1048576 from rfl]
      rfl)
    have HTN2 : Hid (∀ W, Calls Try.prog 24 #[.int .u64 x, .int .i64 n, .int .i64 3] W fun e w' => e = .returned (.int .i64 (turnF x n 3)) ∧ W = w') := HTN
    generalize turnF x n 3 = tv at HE HTN2
    clear HTN
    show Calls _ _ #[.int .u64 x, .int .i64 n, .int .i64 3] _ _
    go_enter Try.func22, Try.ntmps22
    go_wp2_with (first | (go_at_call 24; (with_reducible refine (HTN2.out _).mono ?_); rintro e w' ⟨rfl, rfl⟩) | (go_at_call 25; first | ((with_reducible refine (fourBits_48 x _ h0 h1).mono ?_); rintro e w' ⟨rfl, rfl⟩) | ((with_reducible refine (fourBits_20 x _ h0 h1).mono ?_); rintro e w' ⟨rfl, rfl⟩)))
    exact bodyPost_ret (v := .agg #[.int .i64 tv, .bool (x / 281474976710656 % 16 == 0), .int .i64 (x / 1048576 % 16)]) (by simp [results, Try.results22, go_sem]) rfl ⟨by rw [HE.out], bnew (bid w) _⟩

end Go.Proofs.Ytbenbbgcdcafaaa
