/-
  slices.Index at a row of integers in which the number stands.
-/
import Derived.Test.YtmcmajndcbobpaaRwq
namespace Go.Proofs.Ytmcmajndcbobpaa
open Go.RowKit
attribute [local go_sem] Later.cell Later.frozen

set_option maxHeartbeats 1000000 in
theorem Index_at (a0 : Option Addr) (len cap : Nat) (zs : List Int) (w : World) (h : IntRow w a0 len zs) (hl : len ≤ 1000) (x : Int) (K : Nat) (hK : K < len) (hx : zs.getD K 0 = x) (hne : ∀ j, j < K → zs.getD j 0 ≠ x) :
    Calls Try.prog 68 #[.slice a0 len cap, .int .i64 x] w fun e w' => e = .returned (.int .i64 K) ∧ w = w' := by
  obtain ⟨g, off, rfl, _, hc⟩ := h.at (by omega)
  go_enter Try.func68, Try.ntmps68
  go_wp2_with fail
  go_loopw [8] (fun i W => ∃ k : Nat, k ≤ K ∧ i = .int .i64 k ∧ W = w) (fun i _ => K + 1 - (intOf i).toNat)
  case atStart => exact ⟨0, by omega, rfl, rfl⟩
  case round =>
    obtain ⟨k, hk, rfl, rfl⟩ := hrel
    have c0 := hc k (by omega)
    have i1 : (0 : Int) ≤ (k : Int) := by omega
    have i2 : (k : Int) < (len : Int) := by omega
    by_cases e : k = K
    · subst e
      rw [hx] at c0
      clear hne hc hx h
      go_wp2_with fail
      go_ret
      exact ⟨rfl, rfl⟩
    · have hz := hne k (by omega)
      have he : (x == zs.getD k 0) = false := by
        simp
        exact fun e => hz e.symm
      clear hc
      generalize zs.getD k 0 = z at *
      go_wp2_with fail
      go_roundw
      case rel => exact ⟨k + 1, by omega, by go_num, trivial⟩
      case measure => simp [intOf]; omega

end Go.Proofs.Ytmcmajndcbobpaa
