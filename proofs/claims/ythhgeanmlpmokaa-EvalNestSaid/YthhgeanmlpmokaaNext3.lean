/-
  eval.Addr, and the document's Addr.
-/
import Derived.Test.YthhgeanmlpmokaaNext2
namespace Go.Proofs.Ythhgeanmlpmokaa
open Go.RowKit
set_option linter.unusedVariables false

end Go.Proofs.Ythhgeanmlpmokaa
