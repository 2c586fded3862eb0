/-
  eval.value, eval.Addr, and the document's Addr.
-/
import Derived.Test.YthhgeanmlpmokaaNext1
namespace Go.Proofs.Ythhgeanmlpmokaa
open Go.RowKit
set_option linter.unusedVariables false

theorem quiet_same {P : Program} {f : FuncId} {args : Array Value} {w : World} {n : Nat} {v : Value}
    (h : Calls P f args (w.drewN n) fun e w' => e = .returned v ∧ w.drewN n = w') : Calls P f args (w.drewN n) fun e w'' => e = .returned v ∧ ∃ m, w'' = w.drewN m :=
  h.mono fun _ _ ⟨he, hm⟩ => ⟨he, n, hm.symm⟩
theorem bdrN {w W : World} {n : Nat} (h : Below w.heap.size w W) : Below w.heap.size w (W.drewN n) := ⟨h.os, h.tape, h.output, h.size, h.block⟩
theorem wrap_neg (y z : Int) : wrap64 (y + wrap64 (-z)) = wrap64 (y - z) := by unfold wrap64; omega

set_option maxHeartbeats 2000000 in
theorem value_any (i : Ins) (r : Rg) (w : World) (hb : 0 ≤ i.b ∧ i.b < 4) (hc : 0 ≤ i.c ∧ i.c < 4) (ho : i.op = 1 ∨ i.op = 2 ∨ i.op = 3 ∨ i.op = 4 ∨ i.op = 5 ∨ i.op = 6 ∨ i.op = 7) :
    Calls Try.prog 13 #[i.v, r.v] w fun e w' => e = .returned (.int .i64 (valueF i r)) ∧ Below w.heap.size w w' := by
  obtain ⟨op, a, b, c, n⟩ := i
  dsimp only at hb hc ho ⊢
  obtain ⟨b0, b1⟩ := hb
  obtain ⟨c0, c1⟩ := hc
  have HX := hid (Boxes.new w ⟨op, a, b, c, n⟩ r 27 31)
  obtain ⟨y, hy⟩ : ∃ y, r.get b = y := ⟨_, rfl⟩
  obtain ⟨z, hz⟩ : ∃ z, r.get c = z := ⟨_, rfl⟩
  have HY := hid hy
  have HZ := hid hz
  unfold valueF
  dsimp only
  rw [hy, hz]
  clear hy hz
  obtain ⟨x0, x1, x2, x3⟩ := r
  show Calls _ _ #[.agg #[.int .i64 op, .int .i64 a, .int .i64 b, .int .i64 c, .int .i64 n], .agg #[.int .i64 x0, .int .i64 x1, .int .i64 x2, .int .i64 x3]] _ _
  rcases ho with rfl | rfl | rfl | rfl | rfl | rfl | rfl
  · go_enter Try.func13, Try.ntmps13
    go_upto_region 1 with fail
    refine wp_rename (fun W => Boxes w ⟨1, a, b, c, n⟩ ⟨x0, x1, x2, x3⟩ w.heap.size (w.heap.size + 1) 27 31 W) HX.out ?_
    intro W hW
    have HW := hid hW
    have d0 := cell_of_blk hW.ins 0
    have d2 := cell_of_blk hW.ins 2
    have d3 := cell_of_blk hW.ins 3
    have d4 := cell_of_blk hW.ins 4
    simp only [Ins.cs, List.getElem?_toArray, List.getElem?_cons_zero, List.getElem?_cons_succ] at d0 d2 d3 d4
    have e0 := Rg.cell hW.regs b0 b1
    rw [HY.out] at e0
    have e1 := Rg.cell hW.regs c0 c1
    rw [HZ.out] at e1
    clear hW HX HY HZ
    go_quiet (fail)
    go_wp2_with (go_at_call 14; refine (truth_any _ _).mono ?_; rintro e w' ⟨rfl, rfl⟩)
    go_ret
    exact ⟨rfl, bdrN HW.out.below⟩
  · go_enter Try.func13, Try.ntmps13
    go_upto_region 1 with fail
    refine wp_rename (fun W => Boxes w ⟨2, a, b, c, n⟩ ⟨x0, x1, x2, x3⟩ w.heap.size (w.heap.size + 1) 27 31 W) HX.out ?_
    intro W hW
    have HW := hid hW
    have d0 := cell_of_blk hW.ins 0
    have d2 := cell_of_blk hW.ins 2
    have d3 := cell_of_blk hW.ins 3
    have d4 := cell_of_blk hW.ins 4
    simp only [Ins.cs, List.getElem?_toArray, List.getElem?_cons_zero, List.getElem?_cons_succ] at d0 d2 d3 d4
    have e0 := Rg.cell hW.regs b0 b1
    rw [HY.out] at e0
    have e1 := Rg.cell hW.regs c0 c1
    rw [HZ.out] at e1
    clear hW HX HY HZ
    go_quiet (fail)
    go_wp2_with (go_at_call 14; refine (truth_any _ _).mono ?_; rintro e w' ⟨rfl, rfl⟩)
    go_ret
    exact ⟨rfl, bdrN HW.out.below⟩
  · rw [show (if (3 : Int) = 1 then n else if (3 : Int) = 2 then wrap64 (y + z) else if (3 : Int) = 3 then wrap64 (y - z) else if (3 : Int) = 4 then wrap64 (y * z) else if (3 : Int) = 5 then bits .xor .i64 y z else if (3 : Int) = 6 then tru (decide (y < z)) else tru (y == z)) = wrap64 (y + wrap64 (-z)) from (wrap_neg y z).symm]
    go_enter Try.func13, Try.ntmps13
    go_upto_region 1 with fail
    refine wp_rename (fun W => Boxes w ⟨3, a, b, c, n⟩ ⟨x0, x1, x2, x3⟩ w.heap.size (w.heap.size + 1) 27 31 W) HX.out ?_
    intro W hW
    have HW := hid hW
    have d0 := cell_of_blk hW.ins 0
    have d2 := cell_of_blk hW.ins 2
    have d3 := cell_of_blk hW.ins 3
    have d4 := cell_of_blk hW.ins 4
    simp only [Ins.cs, List.getElem?_toArray, List.getElem?_cons_zero, List.getElem?_cons_succ] at d0 d2 d3 d4
    have e0 := Rg.cell hW.regs b0 b1
    rw [HY.out] at e0
    have e1 := Rg.cell hW.regs c0 c1
    rw [HZ.out] at e1
    clear hW HX HY HZ
    go_quiet (fail)
    go_wp2_with (go_at_call 14; refine (truth_any _ _).mono ?_; rintro e w' ⟨rfl, rfl⟩)
    go_ret
    exact ⟨rfl, bdrN HW.out.below⟩
  · go_enter Try.func13, Try.ntmps13
    go_upto_region 1 with fail
    refine wp_rename (fun W => Boxes w ⟨4, a, b, c, n⟩ ⟨x0, x1, x2, x3⟩ w.heap.size (w.heap.size + 1) 27 31 W) HX.out ?_
    intro W hW
    have HW := hid hW
    have d0 := cell_of_blk hW.ins 0
    have d2 := cell_of_blk hW.ins 2
    have d3 := cell_of_blk hW.ins 3
    have d4 := cell_of_blk hW.ins 4
    simp only [Ins.cs, List.getElem?_toArray, List.getElem?_cons_zero, List.getElem?_cons_succ] at d0 d2 d3 d4
    have e0 := Rg.cell hW.regs b0 b1
    rw [HY.out] at e0
    have e1 := Rg.cell hW.regs c0 c1
    rw [HZ.out] at e1
    clear hW HX HY HZ
    go_quiet (fail)
    go_wp2_with (go_at_call 14; refine (truth_any _ _).mono ?_; rintro e w' ⟨rfl, rfl⟩)
    go_ret
    exact ⟨rfl, bdrN HW.out.below⟩
  · go_enter Try.func13, Try.ntmps13
    go_upto_region 1 with fail
    refine wp_rename (fun W => Boxes w ⟨5, a, b, c, n⟩ ⟨x0, x1, x2, x3⟩ w.heap.size (w.heap.size + 1) 27 31 W) HX.out ?_
    intro W hW
    have HW := hid hW
    have d0 := cell_of_blk hW.ins 0
    have d2 := cell_of_blk hW.ins 2
    have d3 := cell_of_blk hW.ins 3
    have d4 := cell_of_blk hW.ins 4
    simp only [Ins.cs, List.getElem?_toArray, List.getElem?_cons_zero, List.getElem?_cons_succ] at d0 d2 d3 d4
    have e0 := Rg.cell hW.regs b0 b1
    rw [HY.out] at e0
    have e1 := Rg.cell hW.regs c0 c1
    rw [HZ.out] at e1
    clear hW HX HY HZ
    go_quiet (fail)
    go_wp2_with (go_at_call 14; refine (truth_any _ _).mono ?_; rintro e w' ⟨rfl, rfl⟩)
    go_ret
    exact ⟨rfl, bdrN HW.out.below⟩
  · by_cases hlt : y < z
    · rw [show decide (y < z) = true from decide_eq_true hlt]
      have g1 : decide (y < z) = true := decide_eq_true hlt
      go_enter Try.func13, Try.ntmps13
      go_upto_region 1 with fail
      refine wp_rename (fun W => Boxes w ⟨6, a, b, c, n⟩ ⟨x0, x1, x2, x3⟩ w.heap.size (w.heap.size + 1) 27 31 W) HX.out ?_
      intro W hW
      have HW := hid hW
      have d0 := cell_of_blk hW.ins 0
      have d2 := cell_of_blk hW.ins 2
      have d3 := cell_of_blk hW.ins 3
      have d4 := cell_of_blk hW.ins 4
      simp only [Ins.cs, List.getElem?_toArray, List.getElem?_cons_zero, List.getElem?_cons_succ] at d0 d2 d3 d4
      have e0 := Rg.cell hW.regs b0 b1
      rw [HY.out] at e0
      have e1 := Rg.cell hW.regs c0 c1
      rw [HZ.out] at e1
      clear hW HX HY HZ
      go_quiet (fail)
      go_wp2_with (go_at_call 14; refine (truth_any _ _).mono ?_; rintro e w' ⟨rfl, rfl⟩)
      go_ret
      exact ⟨rfl, bdrN HW.out.below⟩
    · rw [show decide (y < z) = false from decide_eq_false hlt]
      have g1 : decide (y < z) = false := decide_eq_false hlt
      go_enter Try.func13, Try.ntmps13
      go_upto_region 1 with fail
      refine wp_rename (fun W => Boxes w ⟨6, a, b, c, n⟩ ⟨x0, x1, x2, x3⟩ w.heap.size (w.heap.size + 1) 27 31 W) HX.out ?_
      intro W hW
      have HW := hid hW
      have d0 := cell_of_blk hW.ins 0
      have d2 := cell_of_blk hW.ins 2
      have d3 := cell_of_blk hW.ins 3
      have d4 := cell_of_blk hW.ins 4
      simp only [Ins.cs, List.getElem?_toArray, List.getElem?_cons_zero, List.getElem?_cons_succ] at d0 d2 d3 d4
      have e0 := Rg.cell hW.regs b0 b1
      rw [HY.out] at e0
      have e1 := Rg.cell hW.regs c0 c1
      rw [HZ.out] at e1
      clear hW HX HY HZ
      go_quiet (fail)
      go_wp2_with (go_at_call 14; refine (truth_any _ _).mono ?_; rintro e w' ⟨rfl, rfl⟩)
      go_ret
      exact ⟨rfl, bdrN HW.out.below⟩
  · cases g1 : (y == z)
    · go_enter Try.func13, Try.ntmps13
      go_upto_region 1 with fail
      refine wp_rename (fun W => Boxes w ⟨7, a, b, c, n⟩ ⟨x0, x1, x2, x3⟩ w.heap.size (w.heap.size + 1) 27 31 W) HX.out ?_
      intro W hW
      have HW := hid hW
      have d0 := cell_of_blk hW.ins 0
      have d2 := cell_of_blk hW.ins 2
      have d3 := cell_of_blk hW.ins 3
      have d4 := cell_of_blk hW.ins 4
      simp only [Ins.cs, List.getElem?_toArray, List.getElem?_cons_zero, List.getElem?_cons_succ] at d0 d2 d3 d4
      have e0 := Rg.cell hW.regs b0 b1
      rw [HY.out] at e0
      have e1 := Rg.cell hW.regs c0 c1
      rw [HZ.out] at e1
      clear hW HX HY HZ
      go_quiet (fail)
      go_wp2_with (go_at_call 14; refine (truth_any _ _).mono ?_; rintro e w' ⟨rfl, rfl⟩)
      go_ret
      exact ⟨rfl, bdrN HW.out.below⟩
    · go_enter Try.func13, Try.ntmps13
      go_upto_region 1 with fail
      refine wp_rename (fun W => Boxes w ⟨7, a, b, c, n⟩ ⟨x0, x1, x2, x3⟩ w.heap.size (w.heap.size + 1) 27 31 W) HX.out ?_
      intro W hW
      have HW := hid hW
      have d0 := cell_of_blk hW.ins 0
      have d2 := cell_of_blk hW.ins 2
      have d3 := cell_of_blk hW.ins 3
      have d4 := cell_of_blk hW.ins 4
      simp only [Ins.cs, List.getElem?_toArray, List.getElem?_cons_zero, List.getElem?_cons_succ] at d0 d2 d3 d4
      have e0 := Rg.cell hW.regs b0 b1
      rw [HY.out] at e0
      have e1 := Rg.cell hW.regs c0 c1
      rw [HZ.out] at e1
      clear hW HX HY HZ
      go_quiet (fail)
      go_wp2_with (go_at_call 14; refine (truth_any _ _).mono ?_; rintro e w' ⟨rfl, rfl⟩)
      go_ret
      exact ⟨rfl, bdrN HW.out.below⟩
end Go.Proofs.Ythhgeanmlpmokaa
