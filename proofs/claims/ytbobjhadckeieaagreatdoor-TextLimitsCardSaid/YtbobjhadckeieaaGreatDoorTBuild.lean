/-
  strings.Builder: copyCheck, WriteString, WriteByte, walked at this program.
-/
import Derived.Test.YtbobjhadckeieaaGreatDoorTTabs
import Derived.Shelf.Strings.BuilderK
namespace Go.Proofs.YtbobjhadckeieaaGreatDoor
open Go.RowKit Go.Shelf
set_option linter.unusedVariables false

theorem infoByte : (Tryz.prog.info? 5).map (fun i => (i.zero, i.size, i.bytes)) = some (some (.int .u8 0), 1, 1) := by kernel_rfl

end Go.Proofs.YtbobjhadckeieaaGreatDoor
