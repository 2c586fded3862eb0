/-
  Instr of layer 4: a raw one is what it is told; another one may be. Prog of layer 5.
-/
import Derived.Test.YtkjcppnnfakjkaaDoorTParse
import Derived.BigRegion
import Derived.Test.YtkjcppnnfakjkaaDoorFirst
namespace Go.Proofs.YtkjcppnnfakjkaaDoor
open Go.RowKit
set_option linter.unusedVariables false

theorem u64_pos (n : Int) : 0 ≤ IntKind.u64.wrap n := by
  simp only [IntKind.wrap, IntKind.signed, Bool.false_and]
  exact Int.emod_nonneg _ (by decide)

/-- What is handed back: an instruction, whichever. -/
def InstrRet (raw : Bool) (w : World) (e : Ending) (w' : World) : Prop := (∃ i : Ins, e = .returned i.v ∧ nOk i.n ∧ (raw = false → mayB i = true)) ∧ Below w.heap.size w w'

structure InAt (w : World) (k0 k1 k2 k3 : Int) (i : Ins) (W : World) : Prop where
  ks : W.heap[w.heap.size]? = some (.cells #[.int .i64 k0, .int .i64 k1, .int .i64 k2, .int .i64 k3] 32 (0, 0))
  res : W.heap[w.heap.size + 1]? = some (.cells #[.int .i64 0, .int .i64 0, .int .i64 0, .int .i64 0, .int .i64 0] 29 (0, 0))
  box : W.heap[w.heap.size + 1 + 1]? = some (.cells i.cs 29 (0, 0))
  below : Below w.heap.size w W

theorem InAt.new (w : World) (k0 k1 k2 k3 : Int) (i : Ins) : InAt w k0 k1 k2 k3 i (((w.alloc (.cells #[.int .i64 k0, .int .i64 k1, .int .i64 k2, .int .i64 k3] 32)).alloc (.cells #[.int .i64 0, .int .i64 0, .int .i64 0, .int .i64 0, .int .i64 0] 29)).alloc (.cells i.cs 29)).drew := by
  refine ⟨?_, ?_, ?_, bdrew (bnew (bnew (bnew (bid w) _) _) _)⟩
  · refine Eq.trans (b := (World.heap (World.alloc (World.alloc (World.alloc w _) _) _))[w.heap.size]?) rfl ?_
    rw [Below.heap_alloc _ _ _ (by simp; omega), Below.heap_alloc _ _ _ (by simp)]
    exact heap_alloc_new _ _
  · refine Eq.trans (b := (World.heap (World.alloc (World.alloc (World.alloc w _) _) _))[w.heap.size + 1]?) rfl ?_
    rw [Below.heap_alloc _ _ _ (by simp)]
    have := heap_alloc_new (w.alloc (.cells #[.int .i64 k0, .int .i64 k1, .int .i64 k2, .int .i64 k3] 32)) (.cells #[.int .i64 0, .int .i64 0, .int .i64 0, .int .i64 0, .int .i64 0] 29)
    rw [size_alloc1] at this
    exact this
  · have := heap_alloc_new ((w.alloc (.cells #[.int .i64 k0, .int .i64 k1, .int .i64 k2, .int .i64 k3] 32)).alloc (.cells #[.int .i64 0, .int .i64 0, .int .i64 0, .int .i64 0, .int .i64 0] 29)) (.cells i.cs 29)
    rw [size_alloc2] at this
    exact this

set_option maxRecDepth 100000 in
set_option maxHeartbeats 4000000 in
theorem Instr_any (k0 k1 k2 k3 n : Int) (raw : Bool) (w : World) (hn : nOk n) :
    Calls Tryd.prog 13 #[.agg #[.int .i64 k0, .int .i64 k1, .int .i64 k2, .int .i64 k3], .int .i64 n, .bool raw] w (InstrRet raw w) := by
  have HNO := hid hn
  clear hn
  have h0 := u64_pos k0
  have h1 := u64_pos k1
  have h2 := u64_pos k2
  have h3 := u64_pos k3
  go_enter Tryd.func13, Tryd.ntmps13
  cases raw
  · go_upto_region 5 with fail
    have hx : ∃ x : Int, 1 + IntKind.u64.wrap k0 % 22 = x ∧ opB x = true := ⟨_, rfl, decide_eq_true (by omega)⟩
    obtain ⟨x, hx, ho⟩ := hx
    rw [hx]
    clear hx
    have HO := hid ho
    clear ho
    go_region
    go_upto_region 7 with fail
    have hb0 : (0 ≤ IntKind.u64.wrap k1 % 4 ∧ IntKind.u64.wrap k1 % 4 < 4) ∧ (0 ≤ IntKind.u64.wrap k2 % 4 ∧ IntKind.u64.wrap k2 % 4 < 4) ∧ (0 ≤ IntKind.u64.wrap k3 % 4 ∧ IntKind.u64.wrap k3 % 4 < 4) := by omega
    have HX : Hid (∃ a b c, ((0 ≤ a ∧ a < 4) ∧ (0 ≤ b ∧ b < 4) ∧ (0 ≤ c ∧ c < 4)) ∧ InAt w k0 k1 k2 k3 ⟨x, a, b, c, n⟩ (((w.alloc (.cells #[.int .i64 k0, .int .i64 k1, .int .i64 k2, .int .i64 k3] 32)).alloc (.cells #[.int .i64 0, .int .i64 0, .int .i64 0, .int .i64 0, .int .i64 0] 29)).alloc (.cells #[.int .i64 x, .int .i64 (IntKind.u64.wrap k1 % 4), .int .i64 (IntKind.u64.wrap k2 % 4), .int .i64 (IntKind.u64.wrap k3 % 4), .int .i64 n] 29)).drew) := hid ⟨_, _, _, hb0, InAt.new w k0 k1 k2 k3 ⟨x, _, _, _, n⟩⟩
    refine wp_rename (fun W => ∃ a b c, ((0 ≤ a ∧ a < 4) ∧ (0 ≤ b ∧ b < 4) ∧ (0 ≤ c ∧ c < 4)) ∧ InAt w k0 k1 k2 k3 ⟨x, a, b, c, n⟩ W) HX.out ?_
    rintro W ⟨a, b, c, hb, hW⟩
    have HW := hid hW
    have HBD := hid hb
    have hb2 : 0 ≤ b := hb.2.1.1
    clear hb
    clear hW HX hb0 h0 h1 h2 h3
    have c0 := cell_of_blk HW.out.box 0
    have c1 := cell_of_blk HW.out.box 1
    have c2 := cell_of_blk HW.out.box 2
    have c3 := cell_of_blk HW.out.box 3
    have c4 := cell_of_blk HW.out.box 4
    have e0 := cell_of_blk HW.out.res 0
    have e1 := cell_of_blk HW.out.res 1
    have e2 := cell_of_blk HW.out.res 2
    have e3 := cell_of_blk HW.out.res 3
    have e4 := cell_of_blk HW.out.res 4
    have f0 := frozen_of_blk HW.out.box 0
    have f1 := frozen_of_blk HW.out.box 1
    have f2 := frozen_of_blk HW.out.box 2
    have f3 := frozen_of_blk HW.out.box 3
    have f4 := frozen_of_blk HW.out.box 4
    have g0 := frozen_of_blk HW.out.res 0
    have g1 := frozen_of_blk HW.out.res 1
    have g2 := frozen_of_blk HW.out.res 2
    have g3 := frozen_of_blk HW.out.res 3
    have g4 := frozen_of_blk HW.out.res 4
    simp only [Ins.cs, List.getElem?_toArray, List.getElem?_cons_zero, List.getElem?_cons_succ] at c0 c1 c2 c3 c4 e0 e1 e2 e3 e4
    rcases op_cases x with (rfl | rfl | rfl | rfl | rfl | rfl | rfl | rfl | rfl | rfl | rfl) | (rfl | rfl | rfl | rfl | rfl | rfl | rfl | rfl | rfl | rfl | rfl) | h
    case inr.inr => exact absurd (of_decide_eq_true HO.out) (by omega)
    all_goals
      go_wp2
      refine bodyPost_ret (v := (Ins.mk _ _ _ _ _).v) (by simp [results, Tryd.results13, go_sem, c0, c1, c2, c3, c4, e0, e1, e2, e3, e4]; exact ⟨rfl, rfl, rfl, rfl, rfl⟩) rfl ⟨⟨_, rfl, by first | exact HNO.out | (unfold nOk; dsimp only; omega), fun _ => by have := HBD.out; simp [mayB, opB, amongB, limA, limB, limC, freeB]; try omega⟩, ?_⟩
      (repeat (refine Below.setCell ?_ (by dsimp only; omega) _))
      exact HW.out.below
  · go_wp2
    exact bodyPost_ret (v := (Ins.mk k0 k1 k2 k3 n).v) (by simp [results, Tryd.results13, go_sem]) rfl ⟨⟨_, rfl, HNO.out, fun h => by cases h⟩, bnew (bnew (bnew (bid w) _) _) _⟩

end Go.Proofs.YtkjcppnnfakjkaaDoor
