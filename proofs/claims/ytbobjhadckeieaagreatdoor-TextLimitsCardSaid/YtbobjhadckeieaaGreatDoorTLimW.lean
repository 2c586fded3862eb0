/-
  TextLimits, walked.
-/
import Derived.Test.YtbobjhadckeieaaGreatDoorTLim
import Derived.Test.YtbobjhadckeieaaGreatDoorTTold
import Derived.Laws.IdiomStrings
import Derived.Laws.MakeOwn
namespace Go.Proofs.YtbobjhadckeieaaGreatDoor
open Go.RowKit
set_option linter.unusedVariables false

theorem u64_lo1 (n : Int) : 0 ≤ IntKind.u64.wrap n := by
  simp only [IntKind.wrap, IntKind.signed, Bool.false_and]
  exact Int.emod_nonneg _ (by decide)
theorem u64_hi1 (n : Int) : IntKind.u64.wrap n ≤ 18446744073709551615 := by
  unfold IntKind.wrap
  simp [IntKind.bits, IntKind.signed]
  omega

theorem infoB : (Tryz.prog.info? 5).map (fun i => (i.zero, i.size, i.bytes)) = some (some (.int .u8 0), 1, 1) := by kernel_rfl
theorem make_bytes (M : Nat) (hM : M ≤ 100000) : ∃ cs : Array Value, cs.size = M ∧ ∀ W : World, (Instr.makeSlice 53 (.int .i64 (M : Int)) (.int .i64 (M : Int))).run Tryz.prog W = .ok (.slice (some ⟨W.heap.size, 0, none⟩) M M) (W.alloc (.cells cs 5)) := by
  obtain ⟨i, hi, hz0, hz1, hz2⟩ := info_parts infoB
  refine ⟨madeCells (Value.int .u8 0).cells (M * 1), ?_, fun W => ?_⟩
  · rw [size_madeCells, Nat.mul_one]
  · have h := run_makeSlice (P := Tryz.prog) (w := W) 53 5 i (.int .u8 0) Tryz.underlying53 hi hz0 .i64 .i64 (M : Int) (M : Int) (by omega) (by omega) (by rw [hz1]; simp; omega) (by rw [hz2]; omega) (by omega)
    rw [hz1] at h
    simpa using h

set_option maxRecDepth 100000 in
set_option maxHeartbeats 8000000 in
theorem lim_walk (a0 a1 : Int) (w : World) (ht : Tabs w) {sb : Nat → Addr} (hS : Sents w sb) (hE : ErrType w) :
    Calls Tryz.prog 5 #[.int .i64 a0, .int .i64 a1] w fun e w' => e = .returned (.bool true) ∧ Below w.heap.size w w' := by
  have HT := hid ht
  have HS := hid hS
  have HE := hid hE
  clear ht hS hE
  have b0 := u64_lo1 a0
  have b1 := u64_hi1 a0
  have b2 : 0 ≤ IntKind.u64.wrap a0 % 5 := Int.emod_nonneg _ (by omega)
  have b3 : IntKind.u64.wrap a0 % 5 < 5 := Int.emod_lt_of_pos _ (by omega)
  obtain ⟨K, hK⟩ : ∃ K : Nat, 46 + IntKind.u64.wrap a0 % 5 = (K : Int) := ⟨(46 + IntKind.u64.wrap a0 % 5).toNat, by omega⟩
  have hK1 : 46 ≤ K := by omega
  have hK2 : K ≤ 50 := by omega
  go_enter Tryz.func5, Tryz.ntmps5
  go_wp2_with fail
  clear b0 b1 b2 b3 hK
  go_loopw [6, 7] (fun s i wr => ∃ k : Nat, k ≤ K ∧ i = .int .i64 k ∧ s = .string (bsOf (lvT k)) ∧ Below w.heap.size w wr) (fun _ i _ => K - (intOf i).toNat)
  case atStart => exact ⟨0, Nat.zero_le _, rfl, rfl, bid w⟩
  case round =>
    obtain ⟨k, hk, rfl, rfl, hb⟩ := hrel
    have HB := hid hb
    clear hb
    by_cases hlt : k < K
    · have i1 : (k : Int) < ((K : Nat) : Int) := by omega
      have q1 : ¬ 9223372036854775807 < (bsOf (lvT k)).size + 7 := by rw [bsOf_size, lvT_len]; omega
      have HSN := hid (show bsOf (lvT k) ++ ({ data := #[108, 101, 97, 118, 101, 10, 10] } : ByteArray) = bsOf (lvT (k + 1)) from (bsOf_append (lvT k) [108, 101, 97, 118, 101, 10, 10]).trans (congrArg bsOf (lvT_snoc k)))
      go_wp2
      go_roundw
      case rel => exact ⟨k + 1, by omega, by go_num, by rw [← HSN.out], HB.out⟩
      case measure => simp [intOf]; omega
    · obtain rfl : k = K := by omega
      clear hlt
      have q1 := run_eql_nils
      have q2 := run_neq_nils2
      by_cases h48 : k ≤ 48
      · have e48 : (k : Int) ≤ 48 := by omega
        have HPG := hid (lv_good k h48 wr (HT.out.below HB.out))
        have HRL := hid (show (List.replicate k leaveI).length = k by simp)
        go_upto_region 11 with (first | (go_at_call 12; (with_reducible refine HPG.out.mono ?_); rintro e w1 ⟨a, c, rfl, hr, hb1⟩; rw [HRL.out]; have HB1 := hid (bthen HB.out hb1); clear hr hb1) | (go_at_call 13; (with_reducible refine (Where_nil _).mono ?_); rintro e w2 ⟨rfl, hb2⟩; have HB2 := hid (bthen HB1.out hb2); clear hb2))
        have d0 := u64_lo1 a1
        have d1 := u64_hi1 a1
        have d2 : 0 ≤ IntKind.u64.wrap a1 % 5 := Int.emod_nonneg _ (by omega)
        have d3 : IntKind.u64.wrap a1 % 5 < 5 := Int.emod_lt_of_pos _ (by omega)
        obtain ⟨M, hM⟩ : ∃ M : Nat, 19998 + IntKind.u64.wrap a1 % 5 = (M : Int) := ⟨(19998 + IntKind.u64.wrap a1 % 5).toNat, by omega⟩
        have hM1 : M ≤ 20002 := by omega
        obtain ⟨cs0, hcs0, hmk⟩ := make_bytes M (by omega)
        go_wp2_with fail
        clear d0 d1 d2 d3 hM hmk
        have hg0 := heap_alloc_new w2 (.cells cs0 5)
        have HB3 := hid (bnew HB2.out (.cells cs0 5))
        have HGL := hid (show w2.heap.size < (w2.alloc (.cells cs0 5)).heap.size by simp)
        have HGW := hid (show w.heap.size ≤ w2.heap.size from HB2.out.size)
        generalize w2.alloc (.cells cs0 5) = w3 at hg0 HB3 HGL ⊢
        generalize w2.heap.size = g at hg0 HGL HGW ⊢
        have HG0 := hid hg0
        clear hg0
        go_loopw [14] (fun i wr => ∃ (j : Nat) (cs : Array Value), j ≤ M ∧ i = .int .i64 j ∧ wr.heap[g]? = some (.cells cs 5 (0, 0)) ∧ cs.size = M ∧ (∀ q, q < j → cs[q]? = some (.int .u8 10)) ∧ Below w.heap.size w wr) (fun i _ => M - (intOf i).toNat)
        case atStart => exact ⟨0, cs0, Nat.zero_le _, rfl, HG0.out, hcs0, fun q h => by omega, HB3.out⟩
        case round =>
          clear HG0 HB3
          obtain ⟨j, cs, hj, rfl, hgb, hsz, hq, hb⟩ := hrel
          have HGB := hid hgb
          have HSZ := hid hsz
          have HQ := hid hq
          have HB4 := hid hb
          clear hgb hsz hq hb
          by_cases hlt : j < M
          · have i0 : (0 : Int) ≤ (j : Int) := by omega
            have i1 : (j : Int) < ((M : Nat) : Int) := by omega
            obtain ⟨v, hv⟩ : ∃ v, cs[j]? = some v := ⟨_, Array.getElem?_eq_getElem (by rw [HSZ.out]; exact hlt)⟩
            have hc := (cell_of_blk HGB.out j).trans hv
            have hf := frozen_of_blk HGB.out j
            clear hv
            go_wp2
            go_roundw
            case rel =>
              refine ⟨j + 1, cs.setIfInBounds j (.int .u8 10), by omega, by go_num, blk_setCell HGB.out j _, by rw [Array.size_setIfInBounds]; exact HSZ.out, fun q hq => ?_, HB4.out.setCell (p := ⟨g, j, none⟩) HGW.out _⟩
              rw [Array.getElem?_setIfInBounds]
              by_cases e : j = q
              · rw [if_pos e, if_pos (by rw [HSZ.out]; exact hlt)]
              · rw [if_neg e]
                exact HQ.out q (by omega)
            case measure => simp [intOf]; omega
          · obtain rfl : j = M := by omega
            clear hlt
            have hcv : (convert 53 9 (.slice (some ⟨g, 0, none⟩) j j)).run Tryz.prog wr = .ok (.string (bsOf (List.replicate j 10))) wr := by
              have h := run_convert_bytes_back (P := Tryz.prog) wr 53 9 5 ⟨g, 0, none⟩ j (List.replicate j 10) Tryz.underlying53 Tryz.underlying5 Tryz.underlying9 (fun q hq => by
                rw [List.length_replicate] at hq
                rw [add_at, Nat.zero_add, cell_of_blk HGB.out q, HQ.out q hq]
                simp)
              rw [List.length_replicate] at h
              exact h
            have HTW := hid (HT.out.below HB4.out)
            have HSW := hid (HS.out.below HB4.out)
            by_cases h20 : j ≤ 20000
            · have e20 : (j : Int) ≤ 20000 := by omega
              have HPQ := hid (nl_good j h20 wr HTW.out)
              go_wp2_with (first | (go_at_call 12; (with_reducible refine HPQ.out.mono ?_); rintro e w5 ⟨a5, c5, rfl, hr5, hb5⟩; simp only [List.length_nil]; have HB5 := hid (bthen HB4.out hb5); clear hr5 hb5) | (go_at_call 13; (with_reducible refine (Where_nil _).mono ?_); rintro e w6 ⟨rfl, hb6⟩; have HB6 := hid (bthen HB5.out hb6); clear hb6) | (go_at_call 15; (with_reducible refine (told5 _ (HT.out.below HB6.out)).mono ?_); rintro e w7 ⟨rfl, hb7⟩; have HB7 := hid (bthen HB6.out hb7); clear hb7))
              go_ret
              exact ⟨rfl, HB7.out⟩
            · have e20 : (20000 : Int) < (j : Int) := by omega
              have HPQ := hid (nl_long j (by omega) (by omega) wr HSW.out)
              have hqn := fun b => run_neq_err2 73 (.pointer (some b))
              go_wp2_with (first | (go_at_call 12; (with_reducible refine HPQ.out.mono ?_); rintro e w5 ⟨b5, rfl, hw5, hb5⟩; have HW5 := hid hw5; have HB5 := hid (bthen HB4.out hb5); clear hw5 hb5) | (go_at_call 13; go_must (refine (Where_wrong (HS.out.below HB5.out) (HE.out.below HB5.out) (k := 4) (by decide) (by decide) HW5.out).mono ?_; rintro e w6 ⟨rfl, hb6⟩; have HW6 := hid (HW5.out.below hb6); have HB6 := hid (bthen HB5.out hb6); clear hb6)) | (go_at_call 15; (with_reducible refine (told5 _ (HT.out.below HB6.out)).mono ?_); rintro e w7 ⟨rfl, hb7⟩; have HW7 := hid (HW6.out.below hb7); have HB7 := hid (bthen HB6.out hb7); clear hb7) | (go_at_call 14; go_must (refine (Code_wrong (HS.out.below HB7.out) (k := 4) (by decide) (by decide) HW7.out).mono ?_; rintro e w8 ⟨rfl, hb8⟩; have HB8 := hid (bthen HB7.out hb8); clear hb8)))
              go_ret
              exact ⟨rfl, HB8.out⟩
      · have e48 : (48 : Int) < (k : Int) := by omega
        have HPG := hid (lv_many k (by omega) hK2 wr (HT.out.below HB.out) (HS.out.below HB.out))
        have hqm := fun b => run_eql_nil 73 (.pointer (some b))
        go_upto_region 11 with (first | (go_at_call 12; (with_reducible refine HPG.out.mono ?_); rintro e w1 ⟨b1, rfl, hw1, hb1⟩; have HW1 := hid hw1; have HB1 := hid (bthen HB.out hb1); clear hw1 hb1) | (go_at_call 13; go_must (refine (Where_wrong (HS.out.below HB1.out) (HE.out.below HB1.out) (k := 4) (by decide) (by decide) HW1.out).mono ?_; rintro e w2 ⟨rfl, hb2⟩; have HW2 := hid (HW1.out.below hb2); have HB2 := hid (bthen HB1.out hb2); clear hb2)) | (go_at_call 14; go_must (refine (Code_wrong (HS.out.below HB2.out) (k := 4) (by decide) (by decide) HW2.out).mono ?_; rintro e w4 ⟨rfl, hb4⟩; have HB9 := hid (bthen HB2.out hb4); clear hb4)))
        clear HW1 HW2
        have d0 := u64_lo1 a1
        have d1 := u64_hi1 a1
        have d2 : 0 ≤ IntKind.u64.wrap a1 % 5 := Int.emod_nonneg _ (by omega)
        have d3 : IntKind.u64.wrap a1 % 5 < 5 := Int.emod_lt_of_pos _ (by omega)
        obtain ⟨M, hM⟩ : ∃ M : Nat, 19998 + IntKind.u64.wrap a1 % 5 = (M : Int) := ⟨(19998 + IntKind.u64.wrap a1 % 5).toNat, by omega⟩
        have hM1 : M ≤ 20002 := by omega
        obtain ⟨cs0, hcs0, hmk⟩ := make_bytes M (by omega)
        go_wp2_with fail
        clear d0 d1 d2 d3 hM hmk
        have hg0 := heap_alloc_new w4 (.cells cs0 5)
        have HB3 := hid (bnew HB9.out (.cells cs0 5))
        have HGL := hid (show w4.heap.size < (w4.alloc (.cells cs0 5)).heap.size by simp)
        have HGW := hid (show w.heap.size ≤ w4.heap.size from HB9.out.size)
        generalize w4.alloc (.cells cs0 5) = w3 at hg0 HB3 HGL ⊢
        generalize w4.heap.size = g at hg0 HGL HGW ⊢
        have HG0 := hid hg0
        clear hg0
        go_loopw [14] (fun i wr => ∃ (j : Nat) (cs : Array Value), j ≤ M ∧ i = .int .i64 j ∧ wr.heap[g]? = some (.cells cs 5 (0, 0)) ∧ cs.size = M ∧ (∀ q, q < j → cs[q]? = some (.int .u8 10)) ∧ Below w.heap.size w wr) (fun i _ => M - (intOf i).toNat)
        case atStart => exact ⟨0, cs0, Nat.zero_le _, rfl, HG0.out, hcs0, fun q h => by omega, HB3.out⟩
        case round =>
          clear HG0 HB3
          obtain ⟨j, cs, hj, rfl, hgb, hsz, hq, hb⟩ := hrel
          have HGB := hid hgb
          have HSZ := hid hsz
          have HQ := hid hq
          have HB4 := hid hb
          clear hgb hsz hq hb
          by_cases hlt : j < M
          · have i0 : (0 : Int) ≤ (j : Int) := by omega
            have i1 : (j : Int) < ((M : Nat) : Int) := by omega
            obtain ⟨v, hv⟩ : ∃ v, cs[j]? = some v := ⟨_, Array.getElem?_eq_getElem (by rw [HSZ.out]; exact hlt)⟩
            have hc := (cell_of_blk HGB.out j).trans hv
            have hf := frozen_of_blk HGB.out j
            clear hv
            go_wp2
            go_roundw
            case rel =>
              refine ⟨j + 1, cs.setIfInBounds j (.int .u8 10), by omega, by go_num, blk_setCell HGB.out j _, by rw [Array.size_setIfInBounds]; exact HSZ.out, fun q hq => ?_, HB4.out.setCell (p := ⟨g, j, none⟩) HGW.out _⟩
              rw [Array.getElem?_setIfInBounds]
              by_cases e : j = q
              · rw [if_pos e, if_pos (by rw [HSZ.out]; exact hlt)]
              · rw [if_neg e]
                exact HQ.out q (by omega)
            case measure => simp [intOf]; omega
          · obtain rfl : j = M := by omega
            clear hlt
            have hcv : (convert 53 9 (.slice (some ⟨g, 0, none⟩) j j)).run Tryz.prog wr = .ok (.string (bsOf (List.replicate j 10))) wr := by
              have h := run_convert_bytes_back (P := Tryz.prog) wr 53 9 5 ⟨g, 0, none⟩ j (List.replicate j 10) Tryz.underlying53 Tryz.underlying5 Tryz.underlying9 (fun q hq => by
                rw [List.length_replicate] at hq
                rw [add_at, Nat.zero_add, cell_of_blk HGB.out q, HQ.out q hq]
                simp)
              rw [List.length_replicate] at h
              exact h
            have HTW := hid (HT.out.below HB4.out)
            have HSW := hid (HS.out.below HB4.out)
            by_cases h20 : j ≤ 20000
            · have e20 : (j : Int) ≤ 20000 := by omega
              have HPQ := hid (nl_good j h20 wr HTW.out)
              go_wp2_with (first | (go_at_call 12; (with_reducible refine HPQ.out.mono ?_); rintro e w5 ⟨a5, c5, rfl, hr5, hb5⟩; simp only [List.length_nil]; have HB5 := hid (bthen HB4.out hb5); clear hr5 hb5) | (go_at_call 13; (with_reducible refine (Where_nil _).mono ?_); rintro e w6 ⟨rfl, hb6⟩; have HB6 := hid (bthen HB5.out hb6); clear hb6) | (go_at_call 15; (with_reducible refine (told5 _ (HT.out.below HB6.out)).mono ?_); rintro e w7 ⟨rfl, hb7⟩; have HB7 := hid (bthen HB6.out hb7); clear hb7))
              go_ret
              exact ⟨rfl, HB7.out⟩
            · have e20 : (20000 : Int) < (j : Int) := by omega
              have HPQ := hid (nl_long j (by omega) (by omega) wr HSW.out)
              have hqn := fun b => run_neq_err2 73 (.pointer (some b))
              go_wp2_with (first | (go_at_call 12; (with_reducible refine HPQ.out.mono ?_); rintro e w5 ⟨b5, rfl, hw5, hb5⟩; have HW5 := hid hw5; have HB5 := hid (bthen HB4.out hb5); clear hw5 hb5) | (go_at_call 13; go_must (refine (Where_wrong (HS.out.below HB5.out) (HE.out.below HB5.out) (k := 4) (by decide) (by decide) HW5.out).mono ?_; rintro e w6 ⟨rfl, hb6⟩; have HW6 := hid (HW5.out.below hb6); have HB6 := hid (bthen HB5.out hb6); clear hb6)) | (go_at_call 15; (with_reducible refine (told5 _ (HT.out.below HB6.out)).mono ?_); rintro e w7 ⟨rfl, hb7⟩; have HW7 := hid (HW6.out.below hb7); have HB7 := hid (bthen HB6.out hb7); clear hb7) | (go_at_call 14; go_must (refine (Code_wrong (HS.out.below HB7.out) (k := 4) (by decide) (by decide) HW7.out).mono ?_; rintro e w8 ⟨rfl, hb8⟩; have HB8 := hid (bthen HB7.out hb8); clear hb8)))
              go_ret
              exact ⟨rfl, HB8.out⟩

end Go.Proofs.YtbobjhadckeieaaGreatDoor
