/-
  A stripe's word in plain numbers.
-/
import Derived.Test.YtjfinnjmcnjciaaBase
namespace Go.Proofs.Ytjfinnjmcnjciaa
open Go.RowKit

/-- 'x & 15'. -/
theorem and15 (x : Int) : bits .and .i64 x 15 = x % 16 := by
  unfold bits
  show IntKind.i64.wrap (((BitVec.ofInt 64 x &&& BitVec.ofInt 64 15).toNat : Nat) : Int) = x % 16
  have e1 : (BitVec.ofInt 64 15).toNat = 2 ^ 4 - 1 := by decide
  rw [BitVec.toNat_and, e1, Nat.and_two_pow_sub_one_eq_mod, BitVec.toNat_ofInt, IntKind.wrap_i64]
  omega
/-- 'x &^ 15'. -/
theorem andNot15 (x : Int) (h0 : -9223372036854775808 ≤ x) (h1 : x ≤ 9223372036854775807) : bits .andNot .i64 x 15 = x - x % 16 := by
  unfold bits
  show IntKind.i64.wrap (((BitVec.ofInt 64 x &&& ~~~ (BitVec.ofInt 64 15)).toNat : Nat) : Int) = x - x % 16
  have hy : ∀ y m : BitVec 64, (y &&& ~~~ m).toNat + (y &&& m).toNat = y.toNat := fun y m => by
    have hz : (y &&& ~~~ m) &&& (y &&& m) = 0#64 := by ext i hi; simp; cases y[i] <;> cases m[i] <;> simp
    have hs := BitVec.add_eq_or_of_and_eq_zero _ _ hz
    have ho : (y &&& ~~~ m) ||| (y &&& m) = y := by ext i hi; simp; cases y[i] <;> cases m[i] <;> rfl
    rw [ho] at hs
    have := congrArg BitVec.toNat hs
    rw [BitVec.toNat_add_of_and_eq_zero hz] at this
    exact this
  have e := hy (BitVec.ofInt 64 x) (BitVec.ofInt 64 15)
  have e1 : (BitVec.ofInt 64 15).toNat = 2 ^ 4 - 1 := by decide
  have e2 : (BitVec.ofInt 64 x &&& BitVec.ofInt 64 15).toNat = (BitVec.ofInt 64 x).toNat % 16 := by
    rw [BitVec.toNat_and, e1, Nat.and_two_pow_sub_one_eq_mod]
  rw [e2, BitVec.toNat_ofInt] at e
  rw [IntKind.wrap_i64]
  omega
/-- The lowest four bits, laid anew. -/
theorem or15 (x c : Int) (h0 : -9223372036854775808 ≤ x) (h1 : x ≤ 9223372036854775807) (c0 : 0 ≤ c) (c1 : c < 16) : bits .or .i64 (x - x % 16) c = x - x % 16 + c := by
  unfold bits
  show IntKind.i64.wrap (((BitVec.ofInt 64 (x - x % 16) ||| BitVec.ofInt 64 c).toNat : Nat) : Int) = x - x % 16 + c
  obtain ⟨k, rfl⟩ : ∃ k : Nat, c = k := ⟨c.toNat, by omega⟩
  have e1 : (BitVec.ofInt 64 (k : Int)).toNat = k := by rw [BitVec.toNat_ofInt]; omega
  have e2 : ∃ q : Nat, (BitVec.ofInt 64 (x - x % 16)).toNat = 2 ^ 4 * q := ⟨(BitVec.ofInt 64 (x - x % 16)).toNat / 16, by rw [BitVec.toNat_ofInt]; omega⟩
  obtain ⟨q, hq⟩ := e2
  rw [BitVec.toNat_or, e1, hq, ← Nat.two_pow_add_eq_or_of_lt (by omega), IntKind.wrap_i64, ← hq, BitVec.toNat_ofInt]
  omega

theorem wrap_in {x : Int} (h0 : -9223372036854775808 ≤ x) (h1 : x ≤ 9223372036854775807) : wrap64 x = x := by
  unfold wrap64
  omega
def verF (x : Int) : Int := x / 16
def holF (x : Int) : Int := x % 16 - 1
def freeF (v : Int) : Int := wrap64 (v * 16)
def takeF (x t : Int) : Int := if 0 ≤ t ∧ t < 4 then x - x % 16 + (t + 1) else x
def freshF (x s : Int) : Int := if x % 16 ≠ 0 then 1 else if s < x / 16 then 2 else 0
/-- A number as 64 bits hold it. -/
def I64 (x : Int) : Prop := -9223372036854775808 ≤ x ∧ x ≤ 9223372036854775807
theorem I64.of_wf {x : Int} (h : (Lit.int .i64 x).wf = true) : I64 x := by
  have := h
  simp [Lit.wf, IntKind.min, IntKind.max, IntKind.signed, IntKind.bits] at this
  unfold I64
  omega

set_option maxHeartbeats 1000000 in
theorem Version_any (x : Int) (w : World) : Calls Try.prog 143 #[.int .i64 x] w fun e w' => e = .returned (.int .i64 (verF x)) ∧ w = w' := by
  go_enter Try.func143, Try.ntmps143
  go_wp2
  go_ret
  exact ⟨rfl, rfl⟩
theorem hol_wrap (x : Int) : wrap64 (x % 16 - 1) = holF x := by unfold holF; exact wrap_in (by omega) (by omega)
set_option maxHeartbeats 1000000 in
theorem Holder_any (x : Int) (w : World) : Calls Try.prog 142 #[.int .i64 x] w fun e w' => e = .returned (.int .i64 (holF x)) ∧ w = w' := by
  have e := and15 x
  have e2 := hol_wrap x
  go_enter Try.func142, Try.ntmps142
  go_wp2
  go_ret
  exact ⟨rfl, rfl⟩
set_option maxHeartbeats 1000000 in
theorem Free_any (x : Int) (w : World) : Calls Try.prog 128 #[.int .i64 x] w fun e w' => e = .returned (.int .i64 (freeF x)) ∧ w = w' := by
  go_enter Try.func128, Try.ntmps128
  go_wp2
  go_ret
  exact ⟨rfl, rfl⟩
set_option maxHeartbeats 1000000 in
theorem Taken_any (x t : Int) (w : World) (hx : I64 x) : Calls Try.prog 144 #[.int .i64 x, .int .i64 t] w fun e w' => e = .returned (.int .i64 (takeF x t)) ∧ w = w' := by
  obtain ⟨x0, x1⟩ := hx
  by_cases h : 0 ≤ t ∧ t < 4
  · obtain ⟨t0, t1⟩ := h
    have H := hid (show takeF x t = x - x % 16 + (t + 1) from if_pos ⟨t0, t1⟩)
    have e1 := andNot15 x x0 x1
    have e2 := or15 x (t + 1) x0 x1 (by omega) (by omega)
    clear x0 x1
    go_enter Try.func144, Try.ntmps144
    go_wp2
    go_ret
    exact ⟨by rw [H.out]; rfl, rfl⟩
  · have H := hid (show takeF x t = x from if_neg h)
    by_cases t0 : t < 0
    · go_enter Try.func144, Try.ntmps144
      go_wp2
      go_ret
      exact ⟨by rw [H.out]; rfl, rfl⟩
    · have t1 : 4 ≤ t := by omega
      go_enter Try.func144, Try.ntmps144
      go_wp2
      go_ret
      exact ⟨by rw [H.out]; rfl, rfl⟩
set_option maxHeartbeats 1000000 in
theorem Fresh_any (x s : Int) (w : World) : Calls Try.prog 121 #[.int .i64 x, .int .i64 s] w fun e w' => e = .returned (.int .i64 (freshF x s)) ∧ w = w' := by
  by_cases h : x % 16 ≠ 0
  · have H := hid (show freshF x s = 1 from if_pos h)
    have hh : (holF x != -1) = true := by unfold holF; simp; omega
    have HH := hid (fun W => Holder_any x W)
    go_enter Try.func121, Try.ntmps121
    go_wp2_with (go_at_call 142; (with_reducible refine (HH.out _).mono ?_); rintro e w1 ⟨rfl, rfl⟩)
    go_ret
    exact ⟨by rw [H.out]; rfl, rfl⟩
  · have hh : (holF x != -1) = false := by unfold holF; simp; omega
    have HH := hid (fun W => Holder_any x W)
    have HV := hid (fun W => Version_any x W)
    by_cases h2 : s < x / 16
    · have H := hid (show freshF x s = 2 from (if_neg h).trans (if_pos h2))
      have hv : s < verF x := h2
      go_enter Try.func121, Try.ntmps121
      go_wp2_with (first | (go_at_call 142; (with_reducible refine (HH.out _).mono ?_); rintro e w1 ⟨rfl, rfl⟩) | (go_at_call 143; (with_reducible refine (HV.out _).mono ?_); rintro e w1 ⟨rfl, rfl⟩))
      go_ret
      exact ⟨by rw [H.out]; rfl, rfl⟩
    · have H := hid (show freshF x s = 0 from (if_neg h).trans (if_neg h2))
      have hv : verF x ≤ s := by unfold verF; omega
      go_enter Try.func121, Try.ntmps121
      go_wp2_with (first | (go_at_call 142; (with_reducible refine (HH.out _).mono ?_); rintro e w1 ⟨rfl, rfl⟩) | (go_at_call 143; (with_reducible refine (HV.out _).mono ?_); rintro e w1 ⟨rfl, rfl⟩))
      go_ret
      exact ⟨by rw [H.out]; rfl, rfl⟩
end Go.Proofs.Ytjfinnjmcnjciaa
