/-
  ReadsRoom: its walk.
-/
import Derived.Test.YtdkjeggichgimaaRdT
namespace Go.Proofs.Ytdkjeggichgimaa
open Go.RowKit
attribute [local go_sem] Later.cell Later.frozen

/-- m words from k on, each with its number. -/
def rsL (k : Int) (m : Nat) : List Wd := (List.range m).map fun j : Nat => (k + (j : Int), (j : Int))
theorem rsL_len (k : Int) (m : Nat) : (rsL k m).length = m := by simp [rsL]
theorem rsL_succ (k : Int) (m : Nat) : rsL k (m + 1) = rsL k m ++ [(k + (m : Int), (m : Int))] := by simp [rsL, List.range_succ]
theorem rsL_at (k : Int) {m i : Nat} (h : i < m) : (rsL k m)[i]? = some (k + (i : Int), (i : Int)) := by simp [rsL, h]
theorem rsL_has (k : Int) (i : Nat) : ∀ m, hasL (rsL k m) (k + (i : Int)) = decide (i < m)
  | 0 => by simp [rsL, hasL]
  | m + 1 => by
    rw [rsL_succ, hasL_snoc, rsL_has k i m, Bool.eq_iff_iff]
    simp
    omega
theorem rs_room (k : Int) (n i : Nat) : roomL n (rsL k (min i n)) (k + (i : Int)) = decide (i < n) := by
  unfold roomL
  rw [rsL_has, rsL_len, Bool.eq_iff_iff]
  simp
  omega
theorem rs_put (k : Int) (n i : Nat) : putL n (rsL k (min i n)) (k + (i : Int)) (i : Int) = rsL k (min (i + 1) n) := by
  by_cases h : i < n
  · rw [putL_new _ (by rw [rsL_has]; simp; omega) (by rw [rsL_len]; omega), show min i n = i by omega, show min (i + 1) n = i + 1 by omega, rsL_succ]
  · rw [putL_full _ (by rw [rsL_len]; omega), show min i n = n by omega, show min (i + 1) n = n by omega]
theorem rs_pick (x : Int) (m : Nat) (h0 : 0 < m) (hm : m ≤ 1073741824) : ∃ k : Nat, k < m ∧ wrap64 ((IntKind.u64.wrap x).tmod (m : Int)) = (k : Int) := by
  have h : 0 ≤ IntKind.u64.wrap x := by
    simp only [IntKind.wrap, IntKind.signed, Bool.false_and]
    exact Int.emod_nonneg _ (by decide)
  generalize IntKind.u64.wrap x = u at *
  have e : u.tmod (m : Int) = u % (m : Int) := Int.tmod_eq_emod_of_nonneg h
  have l1 : 0 ≤ u % (m : Int) := Int.emod_nonneg _ (by omega)
  have l2 : u % (m : Int) < (m : Int) := Int.emod_lt_of_pos _ (by omega)
  rw [e, wrap_in (by omega) (by omega)]
  exact ⟨(u % (m : Int)).toNat, by omega, by omega⟩

theorem field_val (k v : Int) (W : World) : (Instr.field 42 (.agg #[.int .i64 k, .int .i64 v]) 1).run Try.prog W = .ok (.int .i64 v) W := by kernel_rfl
end Go.Proofs.Ytdkjeggichgimaa
