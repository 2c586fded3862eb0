/-
  What an instruction does by itself: the plain functions; truth, turn, value, Addr.
-/
import Derived.Test.YthhgeanmlpmokaaIrow
import Derived.Test.YthhgeanmlpmokaaLater
import Derived.BigQuiet
namespace Go.Proofs.Ythhgeanmlpmokaa
open Go.RowKit
set_option linter.unusedVariables false

/-- Four registers. -/
structure Rg where
  x0 : Int
  x1 : Int
  x2 : Int
  x3 : Int
@[reducible] def Rg.v (r : Rg) : Value := .agg #[.int .i64 r.x0, .int .i64 r.x1, .int .i64 r.x2, .int .i64 r.x3]
def Rg.cs (r : Rg) : Array Value := #[.int .i64 r.x0, .int .i64 r.x1, .int .i64 r.x2, .int .i64 r.x3]
def Rg.get (r : Rg) (i : Int) : Int := if i = 0 then r.x0 else if i = 1 then r.x1 else if i = 2 then r.x2 else r.x3
def Rg.put (r : Rg) (i : Int) (v : Int) : Rg := if i = 0 then { r with x0 := v } else if i = 1 then { r with x1 := v } else if i = 2 then { r with x2 := v } else { r with x3 := v }
theorem reg_cases {i : Int} (h0 : 0 ≤ i) (h1 : i < 4) : i = 0 ∨ i = 1 ∨ i = 2 ∨ i = 3 := by omega
theorem Rg.cell {W : World} {h : Nat} {r : Rg} {T : TypeId} (hb : W.heap[h]? = some (.cells r.cs T (0, 0))) {i : Int} (h0 : 0 ≤ i) (h1 : i < 4) : W.cell? ⟨h, i.toNat, none⟩ = some (.int .i64 (r.get i)) := by
  rcases reg_cases h0 h1 with rfl | rfl | rfl | rfl <;> exact cell_of_blk hb _
theorem Rg.stored {W : World} {h : Nat} {r : Rg} {T : TypeId} (hb : W.heap[h]? = some (.cells r.cs T (0, 0))) {i : Int} (h0 : 0 ≤ i) (h1 : i < 4) (v : Int) :
    (W.setCell ⟨h, i.toNat, none⟩ (.int .i64 v)).heap[h]? = some (.cells (r.put i v).cs T (0, 0)) := by
  rcases reg_cases h0 h1 with rfl | rfl | rfl | rfl <;> exact blk_setCell hb _ _

def tru (b : Bool) : Int := if b then 1 else 0
/-- What comes to stand in the register. -/
def valueF (i : Ins) (r : Rg) : Int :=
  if i.op = 1 then i.n else if i.op = 2 then wrap64 (r.get i.b + r.get i.c) else if i.op = 3 then wrap64 (r.get i.b - r.get i.c) else if i.op = 4 then wrap64 (r.get i.b * r.get i.c)
  else if i.op = 5 then bits .xor .i64 (r.get i.b) (r.get i.c) else if i.op = 6 then tru (decide (r.get i.b < r.get i.c)) else tru (r.get i.b == r.get i.c)
def turnF (op x at_ mate : Int) : Int := if op = 18 ∨ op = 21 then if x = 0 then mate + 1 else at_ + 1 else if op = 19 then mate + 1 else mate
def addrF (i : Ins) (r : Rg) : Int := if amongB i.b 4 = true then wrap64 (r.get i.b + i.n) else -1

theorem truth_any (b : Bool) (w : World) : Calls Try.prog 14 #[.bool b] w fun e w' => e = .returned (.int .i64 (tru b)) ∧ w = w' := by
  cases b
  all_goals
    go_enter Try.func14, Try.ntmps14
    go_wp2
    go_ret
    exact ⟨rfl, rfl⟩
/-- Two boxes, just laid. -/
structure Boxes (w : World) (i : Ins) (r : Rg) (hi hr : Nat) (Ti Tr : TypeId) (W : World) : Prop where
  ins : W.heap[hi]? = some (.cells i.cs Ti (0, 0))
  regs : W.heap[hr]? = some (.cells r.cs Tr (0, 0))
  below : Below w.heap.size w W
theorem Boxes.new (w : World) (i : Ins) (r : Rg) (Ti Tr : TypeId) : Boxes w i r w.heap.size (w.heap.size + 1) Ti Tr ((w.alloc (.cells i.cs Ti)).alloc (.cells r.cs Tr)) := by
  refine ⟨?_, ?_, bnew (bnew (bid w) _) _⟩
  · rw [Below.heap_alloc _ _ _ (by simp)]
    exact heap_alloc_new _ _
  · have := heap_alloc_new (w.alloc (.cells i.cs Ti)) (.cells r.cs Tr)
    rw [size_alloc1] at this
    exact this

set_option maxHeartbeats 2000000 in
theorem turn_any (i : Ins) (at_ mate : Int) (r : Rg) (w : World) (h0 : 0 ≤ at_) (h1 : at_ ≤ 100000) (h2 : 0 ≤ mate) (h3 : mate ≤ 100000) (ha : i.op = 18 ∨ i.op = 21 → 0 ≤ i.a ∧ i.a < 4) (ho : i.op = 18 ∨ i.op = 19 ∨ i.op = 21 ∨ i.op = 22) :
    Calls Try.prog 12 #[i.v, .int .i64 at_, .int .i64 mate, r.v] w fun e w' => e = .returned (.int .i64 (turnF i.op (r.get i.a) at_ mate)) ∧ Below w.heap.size w w' := by
  obtain ⟨op, a, b, c, n⟩ := i
  dsimp only at ha ho ⊢
  have HX := hid (Boxes.new w ⟨op, a, b, c, n⟩ r 27 31)
  obtain ⟨x, hx⟩ : ∃ x, r.get a = x := ⟨_, rfl⟩
  have HXX := hid hx
  rw [hx]
  clear hx
  obtain ⟨x0, x1, x2, x3⟩ := r
  show Calls _ _ #[.agg #[.int .i64 op, .int .i64 a, .int .i64 b, .int .i64 c, .int .i64 n], _, _, .agg #[.int .i64 x0, .int .i64 x1, .int .i64 x2, .int .i64 x3]] _ _
  rcases ho with rfl | rfl | rfl | rfl
  · obtain ⟨a0, a1⟩ := ha (Or.inl rfl)
    clear ha
    by_cases hz : x = 0
    · rw [show turnF 18 x at_ mate = mate + 1 by unfold turnF; simp [hz]]
      subst hz
      go_enter Try.func12, Try.ntmps12
      go_upto_region 1 with fail
      refine wp_rename (fun W => Boxes w ⟨18, a, b, c, n⟩ ⟨x0, x1, x2, x3⟩ w.heap.size (w.heap.size + 1) 27 31 W) HX.out ?_
      intro W hW
      have HW := hid hW
      have b0 := cell_of_blk hW.ins 0
      have b1 := cell_of_blk hW.ins 1
      simp only [Ins.cs, List.getElem?_toArray, List.getElem?_cons_zero, List.getElem?_cons_succ] at b0 b1
      have c0 := Rg.cell hW.regs a0 a1
      rw [HXX.out] at c0
      clear hW HX HXX
      go_wp2
      go_ret
      exact ⟨rfl, HW.out.below⟩
    · rw [show turnF 18 x at_ mate = at_ + 1 by unfold turnF; simp [hz]]
      have e1 : (x == 0) = false := by simpa using hz
      have e2 : (x != 0) = true := by simpa using hz
      clear hz
      go_enter Try.func12, Try.ntmps12
      go_upto_region 1 with fail
      refine wp_rename (fun W => Boxes w ⟨18, a, b, c, n⟩ ⟨x0, x1, x2, x3⟩ w.heap.size (w.heap.size + 1) 27 31 W) HX.out ?_
      intro W hW
      have HW := hid hW
      have b0 := cell_of_blk hW.ins 0
      have b1 := cell_of_blk hW.ins 1
      simp only [Ins.cs, List.getElem?_toArray, List.getElem?_cons_zero, List.getElem?_cons_succ] at b0 b1
      have c0 := Rg.cell hW.regs a0 a1
      rw [HXX.out] at c0
      clear hW HX HXX
      go_wp2
      go_ret
      exact ⟨rfl, HW.out.below⟩
  · rw [show turnF 19 x at_ mate = mate + 1 by unfold turnF; simp]
    clear ha
    go_enter Try.func12, Try.ntmps12
    go_upto_region 1 with fail
    refine wp_rename (fun W => Boxes w ⟨19, a, b, c, n⟩ ⟨x0, x1, x2, x3⟩ w.heap.size (w.heap.size + 1) 27 31 W) HX.out ?_
    intro W hW
    have HW := hid hW
    have b0 := cell_of_blk hW.ins 0
    have b1 := cell_of_blk hW.ins 1
    simp only [Ins.cs, List.getElem?_toArray, List.getElem?_cons_zero, List.getElem?_cons_succ] at b0 b1
    clear hW HX HXX
    go_wp2
    go_ret
    exact ⟨rfl, HW.out.below⟩
  · obtain ⟨a0, a1⟩ := ha (Or.inr rfl)
    clear ha
    by_cases hz : x = 0
    · rw [show turnF 21 x at_ mate = mate + 1 by unfold turnF; simp [hz]]
      subst hz
      go_enter Try.func12, Try.ntmps12
      go_upto_region 1 with fail
      refine wp_rename (fun W => Boxes w ⟨21, a, b, c, n⟩ ⟨x0, x1, x2, x3⟩ w.heap.size (w.heap.size + 1) 27 31 W) HX.out ?_
      intro W hW
      have HW := hid hW
      have b0 := cell_of_blk hW.ins 0
      have b1 := cell_of_blk hW.ins 1
      simp only [Ins.cs, List.getElem?_toArray, List.getElem?_cons_zero, List.getElem?_cons_succ] at b0 b1
      have c0 := Rg.cell hW.regs a0 a1
      rw [HXX.out] at c0
      clear hW HX HXX
      go_wp2
      go_ret
      exact ⟨rfl, HW.out.below⟩
    · rw [show turnF 21 x at_ mate = at_ + 1 by unfold turnF; simp [hz]]
      have e1 : (x == 0) = false := by simpa using hz
      have e2 : (x != 0) = true := by simpa using hz
      clear hz
      go_enter Try.func12, Try.ntmps12
      go_upto_region 1 with fail
      refine wp_rename (fun W => Boxes w ⟨21, a, b, c, n⟩ ⟨x0, x1, x2, x3⟩ w.heap.size (w.heap.size + 1) 27 31 W) HX.out ?_
      intro W hW
      have HW := hid hW
      have b0 := cell_of_blk hW.ins 0
      have b1 := cell_of_blk hW.ins 1
      simp only [Ins.cs, List.getElem?_toArray, List.getElem?_cons_zero, List.getElem?_cons_succ] at b0 b1
      have c0 := Rg.cell hW.regs a0 a1
      rw [HXX.out] at c0
      clear hW HX HXX
      go_wp2
      go_ret
      exact ⟨rfl, HW.out.below⟩
  · rw [show turnF 22 x at_ mate = mate by unfold turnF; simp]
    clear ha
    go_enter Try.func12, Try.ntmps12
    go_upto_region 1 with fail
    refine wp_rename (fun W => Boxes w ⟨22, a, b, c, n⟩ ⟨x0, x1, x2, x3⟩ w.heap.size (w.heap.size + 1) 27 31 W) HX.out ?_
    intro W hW
    have HW := hid hW
    have b0 := cell_of_blk hW.ins 0
    have b1 := cell_of_blk hW.ins 1
    simp only [Ins.cs, List.getElem?_toArray, List.getElem?_cons_zero, List.getElem?_cons_succ] at b0 b1
    clear hW HX HXX
    go_wp2
    go_ret
    exact ⟨rfl, HW.out.below⟩

end Go.Proofs.Ythhgeanmlpmokaa
