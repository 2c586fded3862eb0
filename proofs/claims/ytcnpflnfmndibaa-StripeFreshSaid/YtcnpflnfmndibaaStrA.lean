/-
  StripeAsks, StripeParts, StripeFresh: their walks.
-/
import Derived.Test.YtcnpflnfmndibaaStrP
import Derived.Deep.DeepCutAuto
namespace Go.Proofs.Ytcnpflnfmndibaa
open Go.RowKit

theorem I64.take {x : Int} (h : I64 x) (t : Int) : I64 (takeF x t) := by
  obtain ⟨h0, h1⟩ := h
  unfold takeF I64
  split <;> omega
theorem u64_low (n : Int) : 0 ≤ IntKind.u64.wrap n := by
  simp only [IntKind.wrap, IntKind.signed, Bool.false_and]
  exact Int.emod_nonneg _ (by decide)

set_option maxHeartbeats 4000000 in
theorem sasks_any (x t s : Int) (w : World) (hx : I64 x) :
    Calls Try.prog 3 #[.int .i64 x, .int .i64 t, .int .i64 s] w fun e w' => e = .returned (.bool true) ∧ Below w.heap.size w w' := by
  have HX := hid hx
  have h0 := u64_low t
  have HT := hid (fun (t : Int) W => Taken_any x t W HX.out)
  have HR := hid (fun (t : Int) W => rTaken_any x t W HX.out)
  have HE := hid (show wrap64 (x * 16) = freeF x from rfl)
  clear hx
  go_enter Try.func3, Try.ntmps3
  go_wp2_with (first | (go_at_call 7; (with_reducible refine (told12_any _).mono ?_); rintro e w1 ⟨rfl, rfl⟩) | (go_at_call 8; (with_reducible refine (Version_any _ _).mono ?_); rintro e w1 ⟨rfl, rfl⟩) | (go_at_call 9; (with_reducible refine (rVersion_any _ _).mono ?_); rintro e w1 ⟨rfl, rfl⟩) | (go_at_call 10; (with_reducible refine (Holder_any _ _).mono ?_); rintro e w1 ⟨rfl, rfl⟩) | (go_at_call 11; (with_reducible refine (rHolder_any _ _).mono ?_); rintro e w1 ⟨rfl, rfl⟩) | (go_at_call 12; (with_reducible refine (HT.out _ _).mono ?_); rintro e w1 ⟨rfl, rfl⟩) | (go_at_call 13; (with_reducible refine (HR.out _ _).mono ?_); rintro e w1 ⟨rfl, rfl⟩) | (go_at_call 14; (with_reducible refine (Fresh_any _ _ _).mono ?_); rintro e w1 ⟨rfl, rfl⟩) | (go_at_call 15; (with_reducible refine (rFresh_any _ _ _).mono ?_); rintro e w1 ⟨rfl, rfl⟩) | (go_at_call 16; (with_reducible refine (Free_any _ _).mono ?_); rw [← HE.out]; rintro e w1 ⟨rfl, rfl⟩))
  go_ret
  exact ⟨rfl, Below.refl _ _⟩

/-- 'v % (1 << 58)'. -/
theorem tmod58 (v : Int) : -288230376151711744 < v.tmod 288230376151711744 ∧ v.tmod 288230376151711744 < 288230376151711744 := by
  rcases Int.lt_or_le v 0 with h | h
  · obtain ⟨n, rfl⟩ : ∃ n : Int, v = -n := ⟨-v, by omega⟩
    rw [Int.neg_tmod, Int.tmod_eq_emod_of_nonneg (by omega)]
    omega
  · rw [Int.tmod_eq_emod_of_nonneg h]
    omega

set_option maxHeartbeats 4000000 in
theorem four (a : Int) : 0 ≤ wrap64 ((IntKind.u64.wrap a).tmod 4) ∧ wrap64 ((IntKind.u64.wrap a).tmod 4) < 4 := by
  have h := u64_low a
  rw [Int.tmod_eq_emod_of_nonneg h, wrap_in (by omega) (by omega)]
  omega
set_option maxHeartbeats 4000000 in
theorem sparts_any (v a b : Int) (w : World) :
    Calls Try.prog 4 #[.int .i64 v, .int .i64 a, .int .i64 b] w fun e w' => e = .returned (.bool true) ∧ Below w.heap.size w w' := by
  have hv := tmod58 v
  generalize hy : v.tmod 288230376151711744 = y at hv
  obtain ⟨v0, v1⟩ := hv
  have hs := four a
  have ht := four b
  generalize hsa : wrap64 ((IntKind.u64.wrap a).tmod 4) = s at hs
  generalize hta : wrap64 ((IntKind.u64.wrap b).tmod 4) = t at ht
  have F0 : freeF y = y * 16 := wrap_in (by omega) (by omega)
  have F1 : takeF (y * 16) s = y * 16 + s + 1 := by unfold takeF; rw [if_pos hs]; omega
  have F2 : takeF (y * 16 + s + 1) t = y * 16 + t + 1 := by unfold takeF; rw [if_pos ht]; omega
  have V0 : verF (y * 16) = y := by unfold verF; omega
  have V1 : verF (y * 16 + s + 1) = y := by unfold verF; omega
  have V2 : verF (y * 16 + t + 1) = y := by unfold verF; omega
  have L0 : holF (y * 16) = -1 := by unfold holF; omega
  have L1 : holF (y * 16 + s + 1) = s := by unfold holF; omega
  have L2 : holF (y * 16 + t + 1) = t := by unfold holF; omega
  have HF0 := hid (fun W => Free_any y W)
  rw [F0] at HF0
  have HF1 := hid (fun W => Taken_any (y * 16) s W ⟨by omega, by omega⟩)
  rw [F1] at HF1
  have HF2 := hid (fun W => Taken_any (y * 16 + s + 1) t W ⟨by omega, by omega⟩)
  rw [F2] at HF2
  have HV0 := hid (fun W => Version_any (y * 16) W)
  rw [V0] at HV0
  have HV1 := hid (fun W => Version_any (y * 16 + s + 1) W)
  rw [V1] at HV1
  have HV2 := hid (fun W => Version_any (y * 16 + t + 1) W)
  rw [V2] at HV2
  have HL0 := hid (fun W => Holder_any (y * 16) W)
  rw [L0] at HL0
  have HL1 := hid (fun W => Holder_any (y * 16 + s + 1) W)
  rw [L1] at HL1
  have HL2 := hid (fun W => Holder_any (y * 16 + t + 1) W)
  rw [L2] at HL2
  have hne : (y * 16 + s + 1 != y * 16) = true := by simp; omega
  have hst : ((s == t) == (y * 16 + s + 1 == y * 16 + t + 1)) = true := by
    by_cases e : s = t
    · subst e; simp
    · have e1 : (s == t) = false := by simpa using e
      have e2 : (y * 16 + s + 1 == y * 16 + t + 1) = false := by simp; omega
      rw [e1, e2]; rfl
  clear F0 F1 F2 V0 V1 V2 L0 L1 L2 v0 v1 hs ht
  go_enter Try.func4, Try.ntmps4
  go_upto_region 6 with (first | (go_at_call 16; (with_reducible refine (HF0.out _).mono ?_); rintro e w1 ⟨rfl, rfl⟩) | (go_at_call 12; (with_reducible refine (HF1.out _).mono ?_); rintro e w1 ⟨rfl, rfl⟩) | (go_at_call 12; (with_reducible refine (HF2.out _).mono ?_); rintro e w1 ⟨rfl, rfl⟩))
  generalize hx : y * 16 = x at *
  generalize hx1 : x + s + 1 = x1 at *
  generalize hx2 : x + t + 1 = x2 at *
  go_wp2_with (first | (go_at_call 7; (with_reducible refine (told12_any _).mono ?_); rintro e w1 ⟨rfl, rfl⟩) | (go_at_call 8; (with_reducible refine (HV0.out _).mono ?_); rintro e w1 ⟨rfl, rfl⟩) | (go_at_call 8; (with_reducible refine (HV1.out _).mono ?_); rintro e w1 ⟨rfl, rfl⟩) | (go_at_call 8; (with_reducible refine (HV2.out _).mono ?_); rintro e w1 ⟨rfl, rfl⟩) | (go_at_call 10; (with_reducible refine (HL0.out _).mono ?_); rintro e w1 ⟨rfl, rfl⟩) | (go_at_call 10; (with_reducible refine (HL1.out _).mono ?_); rintro e w1 ⟨rfl, rfl⟩) | (go_at_call 10; (with_reducible refine (HL2.out _).mono ?_); rintro e w1 ⟨rfl, rfl⟩))
  go_ret
  exact ⟨rfl, Below.refl _ _⟩

set_option maxHeartbeats 4000000 in
theorem sfresh_any (v a b t : Int) (w : World) :
    Calls Try.prog 5 #[.int .i64 v, .int .i64 a, .int .i64 b, .int .i64 t] w fun e w' => e = .returned (.bool true) ∧ Below w.heap.size w w' := by
  have hv := tmod58 v
  generalize hy : v.tmod 288230376151711744 = y at hv
  obtain ⟨v0, v1⟩ := hv
  have hs := four t
  generalize hsa : wrap64 ((IntKind.u64.wrap t).tmod 4) = s at hs
  have F0 : freeF y = y * 16 := wrap_in (by omega) (by omega)
  have F1 : takeF (y * 16) s = y * 16 + s + 1 := by unfold takeF; rw [if_pos hs]; omega
  have R : ∀ p, freshF (y * 16) p = if p < y then 2 else 0 := fun p => by
    unfold freshF
    rw [if_neg (by omega), show y * 16 / 16 = y by omega]
  have R1 : freshF (y * 16 + s + 1) a = 1 := by unfold freshF; rw [if_pos (by omega)]
  have HF0 := hid (fun W => Free_any y W)
  rw [F0] at HF0
  have HF1 := hid (fun W => Taken_any (y * 16) s W ⟨by omega, by omega⟩)
  rw [F1] at HF1
  have HR1 := hid (fun W => Fresh_any (y * 16 + s + 1) a W)
  rw [R1] at HR1
  have HMm : ∃ lo hi : Int, (if b < a then b else a) = lo ∧ (if a < b then b else a) = hi ∧ lo ≤ hi := by
    refine ⟨_, _, rfl, rfl, ?_⟩
    split <;> split <;> omega
  clear F0 F1 R1 v0 v1 hs
  go_enter Try.func5, Try.ntmps5
  go_upto_region 3 with (go_at_call 16; (with_reducible refine (HF0.out _).mono ?_); rintro e w1 ⟨rfl, rfl⟩)
  obtain ⟨lo, hi, m1, m2, hm⟩ := HMm
  go_upto_region 4 with fail
  have cA : ((if a < y then (2 : Int) else 0) = 2 ∧ (y ≤ a) = False) ∨ ((if a < y then (2 : Int) else 0) = 0 ∧ (y ≤ a) = True) := by
    by_cases h : a < y
    · exact .inl ⟨if_pos h, by simp; omega⟩
    · exact .inr ⟨if_neg h, by simp; omega⟩
  have cL : (if lo < y then (2 : Int) else 0) = 2 ∨ ((if lo < y then (2 : Int) else 0) = 0 ∧ (if hi < y then (2 : Int) else 0) = 0) := by
    by_cases h : lo < y
    · exact .inl (if_pos h)
    · exact .inr ⟨if_neg h, if_neg (by omega)⟩
  have HA := hid (fun W => Fresh_any (y * 16) a W)
  have HL := hid (fun W => Fresh_any (y * 16) lo W)
  have HH := hid (fun W => Fresh_any (y * 16) hi W)
  rw [R] at HA HL HH
  generalize y * 16 = x at *
  generalize hx1 : x + s + 1 = x1 at *
  generalize (if a < y then (2 : Int) else 0) = fa at *
  generalize (if lo < y then (2 : Int) else 0) = fl at *
  generalize (if hi < y then (2 : Int) else 0) = fh at *
  clear R hm hx1
  rcases cL with rfl | ⟨rfl, rfl⟩ <;> rcases cA with ⟨rfl, ca⟩ | ⟨rfl, ca⟩
  all_goals
    go_wp2_with (first | (go_at_call 7; (with_reducible refine (told12_any _).mono ?_); rintro e w1 ⟨rfl, rfl⟩) | (go_at_call 12; (with_reducible refine (HF1.out _).mono ?_); rintro e w1 ⟨rfl, rfl⟩) | (go_at_call 14; (with_reducible refine (HL.out _).mono ?_); rintro e w1 ⟨rfl, rfl⟩) | (go_at_call 14; (with_reducible refine (HH.out _).mono ?_); rintro e w1 ⟨rfl, rfl⟩) | (go_at_call 14; (with_reducible refine (HA.out _).mono ?_); rintro e w1 ⟨rfl, rfl⟩) | (go_at_call 14; (with_reducible refine (HR1.out _).mono ?_); rintro e w1 ⟨rfl, rfl⟩))
    go_ret
    exact ⟨rfl, Below.refl _ _⟩

end Go.Proofs.Ytcnpflnfmndibaa
