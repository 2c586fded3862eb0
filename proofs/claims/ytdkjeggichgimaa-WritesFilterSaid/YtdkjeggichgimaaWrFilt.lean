/-
  WritesFilter: its walk.
-/
import Derived.Test.YtdkjeggichgimaaWrLast
namespace Go.Proofs.Ytdkjeggichgimaa
open Go.RowKit
attribute [local go_sem] Later.cell Later.frozen

set_option maxHeartbeats 400000 in
theorem boolInt_any (c : Bool) (w : World) : Calls Try.prog 20 #[.bool c] w fun e w' => e = .returned (.int .i64 (bif c then 1 else 0)) ∧ w = w' := by
  cases c with
  | true =>
    go_enter Try.func20, Try.ntmps20
    go_wp2
    go_ret
    exact ⟨rfl, rfl⟩
  | false =>
    go_enter Try.func20, Try.ntmps20
    go_wp2
    go_ret
    exact ⟨rfl, rfl⟩
theorem shr_cast (f : Nat) (k : Int) (h : 0 ≤ k) : (f : Int) / 2 ^ (k % 64).toNat = ((f / 2 ^ (k.toNat % 64) : Nat) : Int) := by
  rw [show (k % 64).toNat = k.toNat % 64 by omega, show (2 : Int) ^ (k.toNat % 64) = ((2 ^ (k.toNat % 64) : Nat) : Int) from (Int.natCast_pow 2 _).symm, ← Int.natCast_ediv]
theorem may_and (ws : List Wd) {k : Int} (h : 0 ≤ k) : (bits .and .u64 ((filtL ws : Int) / 2 ^ (k % 64).toNat) 1 == 1) = mayL ws k := by
  have hlt := filtL_lt ws
  rw [shr_cast _ k h]
  unfold mayL
  rw [decide_eq_true h, Bool.true_and, Nat.testBit_eq_decide_div_mod_eq]
  have hq : filtL ws / 2 ^ (k.toNat % 64) ≤ filtL ws := Nat.div_le_self _ _
  generalize filtL ws / 2 ^ (k.toNat % 64) = z at *
  have e := and_u64 z 1 (by omega) (by decide)
  rw [show ((1 : Nat) : Int) = 1 from rfl] at e
  rw [e, show (1 : Nat) = 2 ^ 1 - 1 from rfl, Nat.and_two_pow_sub_one_eq_mod, Bool.eq_iff_iff]
  simp
  omega

set_option maxRecDepth 100000 in
set_option maxHeartbeats 4000000 in
theorem filt_any (a0 : Option Addr) (len0 cap0 : Nat) (zs : List Int) (x : Int) (w : World) (hr : IntRow w a0 len0 zs) :
    Calls Try.prog 5 #[.slice a0 len0 cap0, .int .i64 x] w fun e w' => e = .returned (.bool true) ∧ Below w.heap.size w w' := by
  have HR0 := hid hr
  clear hr
  by_cases h1 : (30 : Int) < (len0 : Int)
  · go_enter Try.func5, Try.ntmps5
    go_wp2_with (go_at_call 7; go_must ((with_reducible refine (told14_any _).mono ?_); rintro e w1 ⟨rfl, hb1⟩))
    go_ret
    exact ⟨rfl, hb1⟩
  have HNW := hid (show Calls Try.prog 8 #[.int .i64 32] w (WNewRet w 32) from wNew_any 32 w)
  obtain ⟨q, q0, q1, eq⟩ := mod_pick x 4096 (by decide) (by decide)
  have EQ := hid eq
  clear eq
  go_enter Try.func5, Try.ntmps5
  go_upto_region 4 with (go_at_call 8; go_must ((with_reducible refine HNW.out.mono ?_); rintro e w1 ⟨b, rfl, hwb, hs, hb⟩; have HK0 := hid (WmAt.mk hs hwb hb); clear hs hb hwb HNW))
  go_wp2_with fail
  go_loopw [6, 7] (fun f i W => ∃ (j : Nat) (ws : List Wd), j ≤ len0 ∧ i = .int .i64 j ∧ ws.length ≤ j ∧ f = .int .u64 (filtL ws) ∧ WmAt w b 32 ws 0 W) (fun _ i _ => len0 - (intOf i).toNat)
  case atStart => exact ⟨0, [], by omega, rfl, Nat.le_refl _, rfl, HK0.out⟩
  case round =>
    clear HK0
    obtain ⟨j, ws, hj, rfl, hwl, rfl, hR⟩ := hrel
    have HK := hid hR
    clear hR
    by_cases hlt : j < len0
    · obtain ⟨g, off, rfl, hg, hcs⟩ := (HR0.out.below HK.out.below).at (by omega)
      have y0 := hcs j hlt
      clear hcs
      have n1 : (0 : Int) ≤ (j : Int) := by omega
      have n2 : (j : Int) < (len0 : Int) := by omega
      generalize zs.getD j 0 = p1 at *
      obtain ⟨k, k0, k1, ek⟩ := mod_pick p1 4096 (by decide) (by decide)
      obtain ⟨r1, _, _, r4, r5⟩ := wput_room (R := 32) (ws := ws) 1 k0 (by omega)
      have HP := hid (fun (W : World) (h : WSet W b 32 ws 0) => (show Calls Try.prog 13 #[.pointer (some ⟨b, 0, none⟩), .int .i64 k, .int .i64 1] W fun e w' => e = .returned (.bool true) ∧ WSet w' b 32 (wputL 32 ws k 1) 0 ∧ Wrote (fun j => j = b) W w' from by have := wPut_any k 1 b 32 ws 0 W h; unfold WPutRet at this; rwa [r1] at this))
      have H4 := hid r4
      have H5 := hid r5
      have eo := or_bit (filtL_lt ws) k0
      have e0 : 0 ≤ k % 64 := by omega
      have e1 : k % 64 ≤ 64 := by omega
      clear r1 r4 r5
      go_upto_region 11 with fail
      rw [ek]
      clear ek
      go_wp2_with (go_at_call 13; go_must ((with_reducible refine (HP.out _ HK.out.set).mono ?_); rintro e w3 ⟨rfl, hs, hw⟩; have HK := hid (HK.out.put hs hw); clear hs hw))
      go_roundw
      case rel => exact ⟨j + 1, _, by omega, by go_num, by have := H4.out; omega, by rw [H5.out], HK.out⟩
      case measure => simp [intOf]; omega
    · obtain rfl : j = len0 := by omega
      have hp := HK.out.set.pos
      have HG := hid (fun (W : World) (h : WSet W b 32 ws 0) => (show Calls Try.prog 11 #[.pointer (some ⟨b, 0, none⟩), .int .i64 q] W fun e w' => e = .returned (.tuple #[.int .i64 (valL ws q), .bool (hasL ws q)]) ∧ WSet w' b 32 ws (askF ws q 0) ∧ Wrote (fun j => j = b) W w' from wGet_any q b 32 ws 0 W h (by decide)))
      have HA0 := hid (fun (W : World) (h : WSet W b 32 ws 0) => (show Calls Try.prog 18 #[.pointer (some ⟨b, 0, none⟩)] W fun e w' => e = .returned (.int .i64 0) ∧ W = w' from Asked_any b 32 ws 0 W h))
      have HA1 := hid (fun (W : World) (h : WSet W b 32 ws (askF ws q 0)) => (show Calls Try.prog 18 #[.pointer (some ⟨b, 0, none⟩)] W fun e w' => e = .returned (.int .i64 (askF ws q 0 : Nat)) ∧ W = w' from Asked_any b 32 ws _ W h))
      have HFL := hid (fun (W : World) (n : Nat) (h : WSet W b 32 ws n) => Filter_any b 32 ws n W h)
      have es := may_and ws q0
      have e0 : 0 ≤ q % 64 := by omega
      have e1 : q % 64 ≤ 64 := by omega
      have HKA := hid (fun (W W' : World) (hk : WmAt w b 32 ws 0 W) (hs : WSet W' b 32 ws (askF ws q 0)) (hw : Wrote (fun j => j = b) W W') => hk.put hs hw)
      cases hm : mayL ws q with
      | false =>
        have hh := hp.may hm
        have ha : askF ws q 0 = 0 := by unfold askF; rw [hm]; rfl
        rw [hh, ha] at HG
        rw [ha] at HA1 HKA
        rw [hm] at es
        clear ha hh hm hp
        go_upto_region 15 with fail
        rw [EQ.out]
        go_wp2_with (first
          | (go_at_call 7; go_must ((with_reducible refine (told14_any _).mono ?_); rintro e w2 ⟨rfl, hb2⟩; have HK := hid (HK.out.later hb2); clear hb2))
          | (go_at_call 18; go_must ((with_reducible refine (HA1.out _ HK.out.set).mono ?_); rintro e w3 ⟨rfl, rfl⟩))
          | (go_at_call 16; go_must ((with_reducible refine (HFL.out _ _ HK.out.set).mono ?_); rintro e w3 ⟨rfl, rfl⟩))
          | (go_at_call 20; go_must ((with_reducible refine (boolInt_any _ _).mono ?_); rintro e w3 ⟨rfl, rfl⟩))
          | (go_at_call 11; go_must ((with_reducible refine (HG.out _ HK.out.set).mono ?_); rintro e w3 ⟨rfl, hs, hw⟩; have HK := hid (HKA.out _ _ HK.out hs hw); clear hs hw)))
        go_ret
        exact ⟨by simp, HK.out.below⟩
      | true =>
        have ha : askF ws q 0 = 1 := by unfold askF; rw [hm]; rfl
        rw [ha] at HG
        rw [ha] at HA1 HKA
        rw [hm] at es
        clear ha hm hp
        go_upto_region 15 with fail
        rw [EQ.out]
        go_wp2_with (first
          | (go_at_call 7; go_must ((with_reducible refine (told14_any _).mono ?_); rintro e w2 ⟨rfl, hb2⟩; have HK := hid (HK.out.later hb2); clear hb2))
          | (go_at_call 18; (first | ((with_reducible refine (HA0.out _ HK.out.set).mono ?_); rintro e w3 ⟨rfl, rfl⟩) | ((with_reducible refine (HA1.out _ HK.out.set).mono ?_); rintro e w3 ⟨rfl, rfl⟩)))
          | (go_at_call 16; go_must ((with_reducible refine (HFL.out _ _ HK.out.set).mono ?_); rintro e w3 ⟨rfl, rfl⟩))
          | (go_at_call 20; go_must ((with_reducible refine (boolInt_any _ _).mono ?_); rintro e w3 ⟨rfl, rfl⟩))
          | (go_at_call 11; go_must ((with_reducible refine (HG.out _ HK.out.set).mono ?_); rintro e w3 ⟨rfl, hs, hw⟩; have HK := hid (HKA.out _ _ HK.out hs hw); clear hs hw)))
        go_ret
        exact ⟨by simp, HK.out.below⟩

end Go.Proofs.Ytdkjeggichgimaa
