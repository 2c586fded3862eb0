/-
  Instr of layer 4: it answers some instruction.
-/
import Derived.Test.YthhgeanmlpmokaaETold
import Derived.BigRegion
namespace Go.Proofs.Ythhgeanmlpmokaa
open Go.RowKit
set_option linter.unusedVariables false

theorem u64_pos (n : Int) : 0 ≤ IntKind.u64.wrap n := by
  simp only [IntKind.wrap, IntKind.signed, Bool.false_and]
  exact Int.emod_nonneg _ (by decide)

/-- What is handed back: an instruction, whichever. -/
def InstrRet (w : World) (e : Ending) (w' : World) : Prop := (∃ i : Ins, e = .returned i.v) ∧ Below w.heap.size w w'

end Go.Proofs.Ythhgeanmlpmokaa
