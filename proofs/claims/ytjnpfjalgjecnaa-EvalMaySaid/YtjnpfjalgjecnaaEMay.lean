/-
  EvalMay, walked.
-/
import Derived.Test.YtjnpfjalgjecnaaEIns
import Derived.Test.YtjnpfjalgjecnaaRMay
namespace Go.Proofs.Ytjnpfjalgjecnaa
open Go.RowKit
set_option linter.unusedVariables false
attribute [local go_sem] Later.cell Later.frozen

def BoxAt (w : World) (h : Nat) (i : Ins) (W : World) : Prop := W.heap[h]? = some (.cells i.cs 24 (0, 0)) ∧ Below w.heap.size w W ∧ w.heap.size ≤ h
theorem BoxAt.set {w W : World} {h : Nat} {i : Ins} (hb : BoxAt w h i W) (j : Nat) (u : Value) (i' : Ins) (hi : i.cs.setIfInBounds j u = i'.cs) : BoxAt w h i' (W.setCell ⟨h, j, none⟩ u) :=
  ⟨by rw [blk_setCell hb.1, hi], hb.2.1.setCell hb.2.2 _, hb.2.2⟩

set_option maxRecDepth 100000 in
set_option maxHeartbeats 4000000 in
theorem may_walk (k0 k1 k2 k3 n : Int) (raw : Bool) (one x : Int) (w : World) :
    Calls Try.prog 3 #[.agg #[.int .i64 k0, .int .i64 k1, .int .i64 k2, .int .i64 k3], .int .i64 n, .bool raw, .int .i64 one, .int .i64 x] w fun e w' => e = .returned (.bool true) ∧ Below w.heap.size w w' := by
  have hp := u64_pos one
  go_enter Try.func3, Try.ntmps3
  go_upto_region 2 with (go_at_call 9; refine (Instr_any _ _ _ _ _ _ _).mono ?_; rintro e w1 ⟨⟨⟨op, a, b, c, N⟩, rfl⟩, hb1⟩; have HB1 := hid (bthen (bnew (bid w) _) hb1); clear hb1)
  refine wp_rename (fun W => BoxAt w w1.heap.size ⟨op, a, b, c, N⟩ W) ⟨heap_alloc_new _ _, bnew HB1.out _, HB1.out.size⟩ ?_
  intro W hW
  have HW := hid hW
  clear hW HB1
  go_upto_block 0 with fail
  go_cut [] (fun wx => ∃ i, BoxAt w w1.heap.size i wx)
  case first =>
    obtain ⟨q, hq⟩ : ∃ q, IntKind.u64.wrap one % 6 = q := ⟨_, rfl⟩
    have q0 : q = 0 ∨ q = 1 ∨ q = 2 ∨ q = 3 ∨ q = 4 ∨ q = 5 := by omega
    have c1 := cell_of_blk HW.out.1 1
    have c2 := cell_of_blk HW.out.1 2
    have c3 := cell_of_blk HW.out.1 3
    have c4 := cell_of_blk HW.out.1 4
    have f1 := frozen_of_blk HW.out.1 1
    have f2 := frozen_of_blk HW.out.1 2
    have f3 := frozen_of_blk HW.out.1 3
    have f4 := frozen_of_blk HW.out.1 4
    simp only [Ins.cs, List.getElem?_toArray, List.getElem?_cons_zero, List.getElem?_cons_succ] at c1 c2 c3 c4
    have E0 := hid (HW.out.set 1 (.int .i64 x) ⟨op, x, b, c, N⟩ rfl)
    have E1 := hid (HW.out.set 2 (.int .i64 x) ⟨op, a, x, c, N⟩ rfl)
    have E2 := hid (HW.out.set 3 (.int .i64 x) ⟨op, a, b, x, N⟩ rfl)
    have E3 := hid (HW.out.set 4 (.int .i64 x) ⟨op, a, b, c, x⟩ rfl)
    rcases q0 with rfl | rfl | rfl | rfl | rfl | rfl
    all_goals
      go_wp2
      go_meet
      case rel => first | exact ⟨_, E0.out⟩ | exact ⟨_, E1.out⟩ | exact ⟨_, E2.out⟩ | exact ⟨_, E3.out⟩ | exact ⟨_, HW.out⟩
  case rest =>
    clear HW hp
    obtain ⟨⟨op, a, b, c, N⟩, hX⟩ := hcut
    have HX := hid hX
    have c0 := cell_of_blk HX.out.1 0
    have c1 := cell_of_blk HX.out.1 1
    have c2 := cell_of_blk HX.out.1 2
    have c3 := cell_of_blk HX.out.1 3
    have c4 := cell_of_blk HX.out.1 4
    simp only [Ins.cs, List.getElem?_toArray, List.getElem?_cons_zero, List.getElem?_cons_succ] at c0 c1 c2 c3 c4
    have lt := lt_of_block hX.1
    clear hX
    go_wp2_with fail
    refine wp_region_later (by kernel_rfl) (by kernel_rfl) ?_
    repeat (go_big_quiet_step (first | (go_at_call 10; with_reducible exact later_call (told_any _)) | (go_at_call 11; with_reducible exact later_call (May_any ⟨op, a, b, c, N⟩ _)) | (go_at_call 12; with_reducible exact later_call (MayInstr_any ⟨op, a, b, c, N⟩ _)) | (go_at_call 13; with_reducible exact later_same (Local_any _ _)) | (go_at_call 14; with_reducible exact later_same (refLocal_any _ _))))
    refine wpQuiet_nil ?_
    rintro _ ⟨y, rfl⟩
    go_wp2
    go_ret
    exact ⟨rfl, bthen HX.out.2.1 y.below⟩

end Go.Proofs.Ytjnpfjalgjecnaa
