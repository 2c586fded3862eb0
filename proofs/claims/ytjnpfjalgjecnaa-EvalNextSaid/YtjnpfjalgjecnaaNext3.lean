/-
  eval.Addr, and the document's Addr.
-/
import Derived.Test.YtjnpfjalgjecnaaNext2
namespace Go.Proofs.Ytjnpfjalgjecnaa
open Go.RowKit
set_option linter.unusedVariables false

set_option maxHeartbeats 2000000 in
theorem Addr_any (i : Ins) (r : Rg) (w : World) :
    Calls Try.prog 20 #[i.v, r.v] w fun e w' => e = .returned (.int .i64 (addrF i r)) ∧ Below w.heap.size w w' := by
  obtain ⟨op, a, b, c, n⟩ := i
  have HX := hid (Boxes.new w ⟨op, a, b, c, n⟩ r 24 38)
  obtain ⟨y, hy⟩ : ∃ y, r.get b = y := ⟨_, rfl⟩
  have HY := hid hy
  unfold addrF
  dsimp only
  rw [hy]
  clear hy
  obtain ⟨x0, x1, x2, x3⟩ := r
  show Calls _ _ #[.agg #[.int .i64 op, .int .i64 a, .int .i64 b, .int .i64 c, .int .i64 n], .agg #[.int .i64 x0, .int .i64 x1, .int .i64 x2, .int .i64 x3]] _ _
  cases hb : amongB b 4
  all_goals
    have HB := hid hb
    go_enter Try.func20, Try.ntmps20
    go_upto_region 1 with fail
    refine wp_rename (fun W => Boxes w ⟨op, a, b, c, n⟩ ⟨x0, x1, x2, x3⟩ w.heap.size (w.heap.size + 1) 24 38 W) HX.out ?_
    intro W hW
    have HW := hid hW
    have d2 := cell_of_blk hW.ins 2
    have d4 := cell_of_blk hW.ins 4
    simp only [Ins.cs, List.getElem?_toArray, List.getElem?_cons_zero, List.getElem?_cons_succ] at d2 d4
    clear hW HX
  · clear HY
    go_wp2_with (go_at_call 22; refine (among_any _ _ _).mono ?_; rintro e w' ⟨rfl, rfl⟩)
    go_ret
    exact ⟨rfl, HW.out.below⟩
  · obtain ⟨b0, b1⟩ := amongB_iff.1 hb
    have e0 := Rg.cell HW.out.regs b0 b1
    rw [HY.out] at e0
    clear HY HB
    go_wp2_with (go_at_call 22; refine (among_any _ _ _).mono ?_; rintro e w' ⟨rfl, rfl⟩)
    go_quiet (fail)
    go_wp2
    go_ret
    exact ⟨rfl, bdrN HW.out.below⟩

set_option maxHeartbeats 2000000 in
theorem refAddr_any (i : Ins) (r : Rg) (w : World) :
    Calls Try.prog 21 #[i.v, r.v] w fun e w' => e = .returned (.int .i64 (addrF i r)) ∧ Below w.heap.size w w' := by
  obtain ⟨op, a, b, c, n⟩ := i
  have HX := hid (Boxes.new w ⟨op, a, b, c, n⟩ r 24 38)
  obtain ⟨y, hy⟩ : ∃ y, r.get b = y := ⟨_, rfl⟩
  have HY := hid hy
  unfold addrF
  dsimp only
  rw [hy]
  clear hy
  obtain ⟨x0, x1, x2, x3⟩ := r
  show Calls _ _ #[.agg #[.int .i64 op, .int .i64 a, .int .i64 b, .int .i64 c, .int .i64 n], .agg #[.int .i64 x0, .int .i64 x1, .int .i64 x2, .int .i64 x3]] _ _
  by_cases b0 : 0 ≤ b
  · by_cases b1 : b < 4
    · rw [if_pos (amongB_yes b0 b1)]
      go_enter Try.func21, Try.ntmps21
      go_upto_region 1 with fail
      refine wp_rename (fun W => Boxes w ⟨op, a, b, c, n⟩ ⟨x0, x1, x2, x3⟩ w.heap.size (w.heap.size + 1) 24 38 W) HX.out ?_
      intro W hW
      have HW := hid hW
      have d2 := cell_of_blk hW.ins 2
      have d4 := cell_of_blk hW.ins 4
      simp only [Ins.cs, List.getElem?_toArray, List.getElem?_cons_zero, List.getElem?_cons_succ] at d2 d4
      have e0 := Rg.cell HW.out.regs b0 b1
      rw [HY.out] at e0
      clear hW HX HY
      go_wp2
      go_quiet (fail)
      go_wp2
      go_ret
      exact ⟨rfl, bdrN HW.out.below⟩
    · rw [if_neg (by rw [amongB_no (by omega)]; simp)]
      go_enter Try.func21, Try.ntmps21
      go_wp2
      go_ret
      exact ⟨rfl, HX.out.below⟩
  · rw [if_neg (by rw [amongB_no (by omega)]; simp)]
    go_enter Try.func21, Try.ntmps21
    go_wp2
    go_ret
    exact ⟨rfl, HX.out.below⟩

end Go.Proofs.Ytjnpfjalgjecnaa
