/-
  Package text: put, filled.
-/
import Derived.Test.YtbobjhadckeieaaGreatDoorTSpell
namespace Go.Proofs.YtbobjhadckeieaaGreatDoor
open Go.RowKit
set_option linter.unusedVariables false

/-- A slice of texts that reads as these. -/
structure StrRow (w : World) (v : Value) (ls : List (List UInt8)) : Prop where
  form : ∃ a c, v = .slice a ls.length c
  row : ∀ a n c, v = .slice a n c → ls = [] ∨ ∃ b off, a = some ⟨b, off, none⟩ ∧ b < w.heap.size ∧ ∀ k l, ls[k]? = some l → w.cell? ⟨b, off + k, none⟩ = some (.string (bsOf l))
theorem StrRow.below {w w' : World} {v : Value} {ls : List (List UInt8)} (h : StrRow w v ls) (hb : Below w.heap.size w w') : StrRow w' v ls := by
  refine ⟨h.form, fun a n c e => ?_⟩
  rcases h.row a n c e with h' | ⟨b, off, rfl, hlt, hc⟩
  · exact .inl h'
  · exact .inr ⟨b, off, rfl, Nat.lt_of_lt_of_le hlt hb.size, fun k l hk => (hb.cell (p := ⟨b, off + k, none⟩) hlt).trans (hc k l hk)⟩

theorem run_neq_nil (t : TypeId) (v : Value) (W : World) : (binOp .neq 47 (.iface t v) .nilIface).run Tryz.prog W = .ok (.bool true) W := by
  have h : ∀ d : Nat, (Op.equalIn (d + 1) 47 (.iface t v) .nilIface).run Tryz.prog W = .ok false W := fun d => by simp [Op.equalIn, run_underlying Tryz.underlying47]
  simp only [binOp]
  simp [Op.equal, Op.maxDepth, h 9999]
theorem run_neq_nils (W : World) : (binOp .neq 47 .nilIface .nilIface).run Tryz.prog W = .ok (.bool false) W := by kernel_rfl

set_option maxHeartbeats 1000000 in
theorem put_any (b : Nat) (i : Ins) (f : UInt8) (hf : f = 65 ∨ f = 66 ∨ f = 67 ∨ f = 78) (v : Int) (w : World) (hb : w.heap[b]? = some (.cells i.cs 40 (0, 0))) :
    Calls Tryz.prog 90 #[.pointer (some ⟨b, 0, none⟩), .int .i32 (f.toNat : Int), .int .i64 v] w fun e w' => e = .returned (.tuple #[]) ∧ w'.heap[b]? = some (.cells (putF i f v).cs 40 (0, 0)) ∧ Wrote (fun k => k = b) w w' := by
  have hl := lt_of_block hb
  have fz := frozen_of_blk hb
  have f1 := fz 1
  have f2 := fz 2
  have f3 := fz 3
  have f4 := fz 4
  have HB := hid hb
  obtain ⟨op, a, bb, c, n⟩ := i
  have c1 : w.cell? ⟨b, 1, none⟩ = some (.int .i64 a) := cell_of_blk hb 1
  have c2 : w.cell? ⟨b, 2, none⟩ = some (.int .i64 bb) := cell_of_blk hb 2
  have c3 : w.cell? ⟨b, 3, none⟩ = some (.int .i64 c) := cell_of_blk hb 3
  have c4 : w.cell? ⟨b, 4, none⟩ = some (.int .i64 n) := cell_of_blk hb 4
  clear fz hb
  rcases hf with rfl | rfl | rfl | rfl
  · show Calls _ _ #[_, .int .i32 65, _] _ _
    go_enter Tryz.func90, Tryz.ntmps90
    go_wp2
    go_end0
    exact ⟨rfl, (blk_setCell HB.out 1 _).trans (by rfl), Wrote.setCell (S := fun k => k = b) (p := ⟨b, 1, none⟩) (Wrote.refl _ w) (fun _ => rfl) _⟩
  · show Calls _ _ #[_, .int .i32 66, _] _ _
    go_enter Tryz.func90, Tryz.ntmps90
    go_wp2
    go_end0
    exact ⟨rfl, (blk_setCell HB.out 2 _).trans (by rfl), Wrote.setCell (S := fun k => k = b) (p := ⟨b, 2, none⟩) (Wrote.refl _ w) (fun _ => rfl) _⟩
  · show Calls _ _ #[_, .int .i32 67, _] _ _
    go_enter Tryz.func90, Tryz.ntmps90
    go_wp2
    go_end0
    exact ⟨rfl, (blk_setCell HB.out 3 _).trans (by rfl), Wrote.setCell (S := fun k => k = b) (p := ⟨b, 3, none⟩) (Wrote.refl _ w) (fun _ => rfl) _⟩
  · show Calls _ _ #[_, .int .i32 78, _] _ _
    go_enter Tryz.func90, Tryz.ntmps90
    go_wp2
    go_end0
    exact ⟨rfl, (blk_setCell HB.out 4 _).trans (by rfl), Wrote.setCell (S := fun k => k = b) (p := ⟨b, 4, none⟩) (Wrote.refl _ w) (fun _ => rfl) _⟩

end Go.Proofs.YtbobjhadckeieaaGreatDoor
