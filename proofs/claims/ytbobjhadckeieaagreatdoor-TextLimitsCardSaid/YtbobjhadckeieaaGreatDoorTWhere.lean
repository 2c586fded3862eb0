/-
  TextWhere, walked.
-/
import Derived.Test.YtbobjhadckeieaaGreatDoorTWhereL
import Derived.Test.YtbobjhadckeieaaGreatDoorTDec
import Derived.Deep.DeepCutAuto
namespace Go.Proofs.YtbobjhadckeieaaGreatDoor
open Go.RowKit
set_option linter.unusedVariables false

theorem u64_pos5 (n : Int) : 0 ≤ IntKind.u64.wrap n := by
  unfold IntKind.wrap
  simp [IntKind.bits, IntKind.signed]
  try omega

theorem run_neq_err (t : TypeId) (v : Value) (W : World) : (binOp .neq 47 (.iface t v) .nilIface).run Tryz.prog W = .ok (.bool true) W := by
  have h : ∀ d : Nat, (Op.equalIn (d + 1) 47 (.iface t v) .nilIface).run Tryz.prog W = .ok false W := fun d => by simp [Op.equalIn, run_underlying Tryz.underlying47]
  simp only [binOp]
  simp [Op.equal, Op.maxDepth, h 9999]
def badObj : Obj := .cells ((badWs.map fun b => Value.string (bsOf b)).toArray) 9
theorem bad_cell (w : World) (z : Int) (h0 : 0 ≤ z) (h1 : z < 13) : ∃ b, b ∈ badWs ∧ (w.alloc badObj).cell? ⟨w.heap.size, z.toNat, none⟩ = some (.string (bsOf b)) := by
  obtain ⟨r, rfl⟩ : ∃ r : Nat, z = (r : Int) := ⟨z.toNat, by omega⟩
  rw [Int.toNat_natCast]
  have hr : r < badWs.length := by show r < 13; omega
  refine ⟨badWs[r], List.getElem_mem hr, ?_⟩
  unfold badObj
  rw [World.cell?_alloc_at _ _ _ _ rfl]
  simp [hr]

end Go.Proofs.YtbobjhadckeieaaGreatDoor
