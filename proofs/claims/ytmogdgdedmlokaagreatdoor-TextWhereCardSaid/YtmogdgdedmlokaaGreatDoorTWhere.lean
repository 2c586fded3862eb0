/-
  TextWhere, walked.
-/
import Derived.Test.YtmogdgdedmlokaaGreatDoorTWhereL
import Derived.Test.YtmogdgdedmlokaaGreatDoorTDec
import Derived.Deep.DeepCutAuto
namespace Go.Proofs.YtmogdgdedmlokaaGreatDoor
open Go.RowKit
set_option linter.unusedVariables false

theorem u64_pos5 (n : Int) : 0 ≤ IntKind.u64.wrap n := by
  unfold IntKind.wrap
  simp [IntKind.bits, IntKind.signed]
  try omega

theorem run_neq_err (t : TypeId) (v : Value) (W : World) : (binOp .neq 49 (.iface t v) .nilIface).run Tryz.prog W = .ok (.bool true) W := by
  have h : ∀ d : Nat, (Op.equalIn (d + 1) 49 (.iface t v) .nilIface).run Tryz.prog W = .ok false W := fun d => by simp [Op.equalIn, run_underlying Tryz.underlying49]
  simp only [binOp]
  simp [Op.equal, Op.maxDepth, h 9999]
def badObj : Obj := .cells ((badWs.map fun b => Value.string (bsOf b)).toArray) 9
theorem bad_cell (w : World) (z : Int) (h0 : 0 ≤ z) (h1 : z < 13) : ∃ b, b ∈ badWs ∧ (w.alloc badObj).cell? ⟨w.heap.size, z.toNat, none⟩ = some (.string (bsOf b)) := by
  obtain ⟨r, rfl⟩ : ∃ r : Nat, z = (r : Int) := ⟨z.toNat, by omega⟩
  rw [Int.toNat_natCast]
  have hr : r < badWs.length := by show r < 13; omega
  refine ⟨badWs[r], List.getElem_mem hr, ?_⟩
  unfold badObj
  rw [World.cell?_alloc_at _ _ _ _ rfl]
  simp [hr]

set_option maxRecDepth 100000 in
set_option maxHeartbeats 4000000 in
theorem where_walk (a0 a1 a2 : Int) (w : World) (ht : Tabs w) {sb : Nat → Addr} (hS : Sents w sb) (hE : ErrType w)
    (TOLD : ∀ W, Tabs W → Calls Tryz.prog 16 #[] W fun e w' => e = .returned (.bool true) ∧ Below W.heap.size W w') :
    Calls Tryz.prog 5 #[.int .i64 a0, .int .i64 a1, .int .i64 a2] w fun e w' => e = .returned (.bool true) ∧ Below w.heap.size w w' := by
  have HT := hid ht
  have HSS := hid hS
  have HE := hid hE
  have p0 := u64_pos5 a0
  have p1 := u64_pos5 a1
  clear ht hS hE
  have hTOLD := hid TOLD
  clear TOLD
  go_enter Tryz.func5, Tryz.ntmps5
  go_upto_region 2 with fail
  have hg0 : 0 ≤ IntKind.u64.wrap a0 % 40 := by omega
  have hg1 : IntKind.u64.wrap a0 % 40 < 40 := by omega
  have hn0 : 0 ≤ IntKind.u64.wrap a1 % 40 := by omega
  have hn1 : IntKind.u64.wrap a1 % 40 < 40 := by omega
  clear p0 p1
  generalize IntKind.u64.wrap a0 % 40 = zg at hg0 hg1 ⊢
  generalize IntKind.u64.wrap a1 % 40 = zn at hn0 hn1 ⊢
  obtain ⟨g, rfl⟩ : ∃ g : Nat, zg = (g : Int) := ⟨zg.toNat, by omega⟩
  obtain ⟨n, rfl⟩ : ∃ n : Nat, zn = (n : Int) := ⟨zn.toNat, by omega⟩
  clear hg0 hn0
  go_wp2
  go_loopw [9, 10] (fun t9 tk wr => ∃ k : Nat, k ≤ n ∧ tk = .int .i64 k ∧ t9 = .string (bsOf (gapsN k)) ∧ wr = w) (fun _ tk _ => n - (intOf tk).toNat)
  case atStart => exact ⟨0, Nat.zero_le _, rfl, rfl, rfl⟩
  case round =>
    obtain ⟨k, hk, rfl, rfl, hw⟩ := hrel
    obtain rfl : w = wr := hw.symm
    by_cases hlt : k < n
    · have hl1 : ¬ 9223372036854775807 < (bsOf (gapsN k)).size + 1 := by rw [bsOf_size]; simp [gapsN]; omega
      have HAP := hid (bsOf_append (gapsN k) [10])
      have HNX := hid (show gapsN (k + 1) = gapsN k ++ [10] by simp [gapsN, List.replicate_succ'])
      have j2 : (k : Int) < (n : Int) := by omega
      go_wp2
      go_roundw
      case rel =>
        refine ⟨k + 1, by omega, by go_num, ?_, by trivial⟩
        rw [HNX.out, ← HAP.out]; rfl
      case measure => simp [intOf]; omega
    · obtain rfl : k = n := by omega
      clear hlt hk
      go_wp2
      go_loopw [9, 11] (fun t9 tk wr => ∃ j : Nat, j ≤ g ∧ tk = .int .i64 j ∧ t9 = .string (bsOf (gapsN k ++ logsN j)) ∧ Below w.heap.size w wr) (fun _ tk _ => g - (intOf tk).toNat)
      case atStart => exact ⟨0, Nat.zero_le _, rfl, by simp [logsN], bid w⟩
      case round =>
        obtain ⟨j, hj, rfl, rfl, hb⟩ := hrel
        have HB := hid hb
        clear hb
        by_cases hlt : j < g
        · have hl1 : ¬ 9223372036854775807 < 4 + (bsOf (Lib.itoa ((j % 4 : Nat) : Int))).size := by rw [bsOf_size]; have := log_len j; simp only [logL, List.length_append, List.length_cons, List.length_nil] at this; omega
          have hl2 : ¬ 9223372036854775807 < (bsOf (logL j)).size + 1 := by rw [bsOf_size, log_len]; omega
          have hl3 : ¬ 9223372036854775807 < (bsOf (gapsN k ++ logsN j)).size + (bsOf (logL j ++ [10])).size := by rw [bsOf_size, bsOf_size, List.length_append, logsN_len, List.length_append, log_len]; simp [gapsN]; omega
          have HA1 : ByteArray.mk #[108, 111, 103, 32] ++ bsOf (Lib.itoa ((j % 4 : Nat) : Int)) = bsOf (logL j) := bsOf_append [108, 111, 103, 32] _
          have HA2 : bsOf (logL j) ++ ByteArray.mk #[10] = bsOf (logL j ++ [10]) := bsOf_append (logL j) [10]
          have HA3 : bsOf (gapsN k ++ logsN j) ++ bsOf (logL j ++ [10]) = bsOf (gapsN k ++ logsN (j + 1)) := by rw [bsOf_append, logsN_succ, List.append_assoc]
          have j1 : (0 : Int) ≤ (j : Int) := by omega
          have j2 : (j : Int) < (g : Int) := by omega
          have j4 : ((j : Int) % 4) = ((j % 4 : Nat) : Int) := by omega
          have HNO : Hid (nOk ((j % 4 : Nat) : Int)) := hid ⟨by omega, by omega⟩
          have HD := hid (show ∀ W, Calls Tryz.prog 13 #[.int .i64 ((j : Int) % 4)] W fun e w' => e = .returned (.string (bsOf (Lib.itoa ((j % 4 : Nat) : Int)))) ∧ Below W.heap.size W w' from fun W => by rw [j4]; exact Decimal_all _ HNO.out W)
          clear j4
          generalize Lib.itoa ((j % 4 : Nat) : Int) = ds at hl1 HA1 HD
          go_wp2_with (go_at_call 13; (with_reducible refine (HD.out _).mono ?_); rintro e w1 ⟨rfl, hb1⟩; have HB1 := hid (bthen HB.out hb1); clear hb1)
          go_roundw
          case rel => exact ⟨j + 1, by omega, by go_num, by rw [← HA3], HB1.out⟩
          case measure => simp [intOf]; omega
        · obtain rfl : j = g := by omega
          clear hlt hj
          go_upto_region 12 with fail
          have HQ : Hid (∃ b, b ∈ badWs ∧ (wr.alloc badObj).cell? ⟨wr.heap.size, (IntKind.u64.wrap a2 % 13).toNat, none⟩ = some (.string (bsOf b))) := hid (bad_cell wr _ (by have := u64_pos5 a2; omega) (by have := u64_pos5 a2; omega))
          have p2 := u64_pos5 a2
          have h13 : IntKind.u64.wrap a2 % 13 < 13 := by omega
          have h130 : 0 ≤ IntKind.u64.wrap a2 % 13 := by omega
          obtain ⟨b, hbm, hbc⟩ := HQ.out
          obtain ⟨r, hr⟩ : ∃ r : Nat, IntKind.u64.wrap a2 % 13 = (r : Int) := ⟨(IntKind.u64.wrap a2 % 13).toNat, by omega⟩
          rw [hr, Int.toNat_natCast] at hbc
          rw [hr] at h13 h130
          obtain ⟨hb10, hbne, hbl⟩ := bad_clean b hbm
          have hbn := bad_none b hbm
          have hm1 : ¬ 9223372036854775807 < (bsOf b).size + 7 := by rw [bsOf_size]; omega
          have hm2 : ¬ 9223372036854775807 < (bsOf (gapsN k ++ logsN j)).size + (bsOf (b ++ [10, 108, 101, 97, 118, 101, 10])).size := by rw [bsOf_size, bsOf_size, List.length_append, logsN_len, List.length_append]; simp [gapsN]; omega
          have HM1 : bsOf b ++ ByteArray.mk #[10, 108, 101, 97, 118, 101, 10] = bsOf (b ++ [10, 108, 101, 97, 118, 101, 10]) := bsOf_append b _
          have HM2 : bsOf (gapsN k ++ logsN j) ++ bsOf (b ++ [10, 108, 101, 97, 118, 101, 10]) = bsOf (whereL k j b) := by rw [bsOf_append]; rfl
          have HWA := hid (where_at k j b hb10)
          have HWL := hid (where_len k j b)
          have HBN := hid hbn
          have HBE := hid hbne
          have HBL := hid hbl
          clear hbn hbne hbl hb10 hbm
          have HBW := hid (bthen HB.out (bnew (bid wr) badObj))
          show Code.wp _ _ _ _ (wr.alloc badObj)
          generalize wr.alloc badObj = W2 at hbc HBW ⊢
          have HT2 := hid (HT.out.below HBW.out)
          have HS2 := hid (HSS.out.below HBW.out)
          have HE2 := hid (show ErrType W2 from (HBW.out.cell (p := ⟨11, 0, none⟩) (World.block_lt_of_cell? w _ HE.out)).trans HE.out)
          have HPB := hid (Parse_bad (whereL k j b) (k + j) b _ HWA.out.1 HBE.out HBN.out HWA.out.2 (by simp; omega) (by rw [HWL.out]; have := HBL.out; omega) W2 HT2.out HS2.out)
          go_upto_region 15 with (first | (go_at_call 14; (with_reducible refine HPB.out.mono ?_); rintro e w3 ⟨b3, rfl, hw3, hb3⟩; have HW3 := hid hw3; have HB3 := hid hb3; have HS3 := hid (HS2.out.below hb3); have HT3 := hid (HT2.out.below hb3); have HE3 := hid (show ErrType w3 from (hb3.cell (p := ⟨11, 0, none⟩) (World.block_lt_of_cell? W2 _ HE2.out)).trans HE2.out); clear hw3 hb3) | (go_at_call 15; (with_reducible refine (Where_wrong HS3.out HE3.out (by decide) (by decide) HW3.out).mono ?_); rintro e w4 ⟨rfl, hb4⟩; have HB4 := hid hb4; have HW4 := hid (HW3.out.below hb4); have HS4 := hid (HS3.out.below hb4); have HT4 := hid (HT3.out.below hb4); clear hb4))
          have hq3 := run_neq_err 76 (.pointer (some ⟨b3, 0, none⟩))
          have hcast : (((k + j : Nat) : Int) + 1) = (k : Int) + (j : Int) + 1 := by omega
          go_wp2_with (first | (go_at_call 16; (with_reducible refine (hTOLD.out _ HT4.out).mono ?_); rintro e w5 ⟨rfl, hb5⟩; have HB5 := hid hb5; have HW5 := hid (HW4.out.below hb5); have HS5 := hid (HS4.out.below hb5); clear hb5) | (go_at_call 17; (with_reducible refine (Code_wrong HS5.out (by decide) (by decide) HW5.out).mono ?_); rintro e w6 ⟨rfl, hb6⟩; have HB6 := hid hb6; clear hb6))
          go_ret
          exact ⟨rfl, bthen (bthen (bthen (bthen HBW.out HB3.out) HB4.out) HB5.out) HB6.out⟩

end Go.Proofs.YtmogdgdedmlokaaGreatDoor
