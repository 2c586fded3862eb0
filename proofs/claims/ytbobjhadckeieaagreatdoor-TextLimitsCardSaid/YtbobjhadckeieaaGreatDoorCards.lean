/-
  DERIVED. GIVEN WITH THE SEED: THE CARDS: each row of YtbobjhadckeieaaGreatDoorRows.lean that lists a variable, with what it lists TIED to the program's text (the seventh form; the later family's looks); each row that meets fmt, with fmt's text TOLD by the authors' own Lean function (tested against real Go, not proved from fmt's source: count such statements apart). THE CARD IS WHAT COUNTS. Prove the row's statement (the work); the ties are given (YtbobjhadckeieaaGreatDoorTie.lean); close each card by the builder's one call (the guide's Derived/Test/ToyasCard.lean, 'card_holds'). Laid BY PROGRAM, IN A SANDBOX (cutbox-door.mjs). By AI agents, Wed Nov 11 2026. No macro, syntax, notation, axiom, sorry.
-/
import Derived.Test.YtbobjhadckeieaaGreatDoorRows
import GoSem.ClaimSeven
namespace Go.Proofs.YtbobjhadckeieaaGreatDoor
namespace Rows

/-- THE TIED CARD OF 'syncopelaw6.CheckProg'. -/
def checkProgCard : Claim7 := { stood := { row := checkProgRow, standIns := [], harness := (true, "41a0dbc09b8e3d5120018f64672712b1264573892bc6314f1678022f37f8d7db"), looks := true }, kinds := [], alts := [], laidByText := true, laidKinds := [.handle, .sentinel, .sentinel, .sentinel, .sentinel, .sentinel, .sentinel, .sentinel, .sentinel, .sentinel, .sentinel], laidTests := true, laidLooks := .later }
def CheckProgCardSaid : Prop := Claim7.holds Tryz.pinned (.plain (OpenSpec.ofChange checkProgSpec)) checkProgCard

/-- THE TIED CARD OF 'syncopelaw6.CheckConfig'. -/
def checkConfigCard : Claim7 := { stood := { row := checkConfigRow, standIns := [], harness := (true, "41a0dbc09b8e3d5120018f64672712b1264573892bc6314f1678022f37f8d7db"), looks := true }, kinds := [], alts := [], laidByText := true, laidKinds := [.handle, .sentinel, .sentinel, .sentinel, .sentinel, .sentinel, .sentinel, .sentinel, .sentinel, .sentinel, .sentinel], laidTests := true, laidLooks := .later }
def CheckConfigCardSaid : Prop := Claim7.holds Tryz.pinned (.plain (OpenSpec.ofChange checkConfigSpec)) checkConfigCard

/-- THE TIED CARD OF 'syncopelaw5.TextLimits'. -/
def textLimitsCard : Claim7 := { stood := { row := textLimitsRow, standIns := [], harness := (true, "41a0dbc09b8e3d5120018f64672712b1264573892bc6314f1678022f37f8d7db"), looks := true }, kinds := [], alts := [], laidByText := true, laidKinds := [.data, .data, .data, .data, .handle, .sentinel, .sentinel, .sentinel, .sentinel, .sentinel, .sentinel, .sentinel, .sentinel, .sentinel, .sentinel, .sentinel, .sentinel, .data, .pinned], laidTests := true, laidLooks := .later }
def TextLimitsCardSaid : Prop := Claim7.holds Tryz.pinned (.plain (OpenSpec.ofChange textLimitsSpec)) textLimitsCard

/-- THE SECOND FORM's CARD OF 'syncopelaw6.CheckProg'. -/
def checkProgUptoCard : Claim7 := { stood := { row := checkProgUptoRow, standIns := [], harness := (true, "41a0dbc09b8e3d5120018f64672712b1264573892bc6314f1678022f37f8d7db"), looks := true }, kinds := [], alts := [], laidByText := true, laidKinds := [.handle, .sentinel, .sentinel, .sentinel, .sentinel, .sentinel, .sentinel, .sentinel, .sentinel, .sentinel, .sentinel], laidTests := true, laidLooks := .later }
def CheckProgUptoCardSaid : Prop := Claim7.holds Tryz.pinned (.plain (OpenSpec.upto checkProgSpec)) checkProgUptoCard

/-- THE SECOND FORM's CARD OF 'syncopelaw6.CheckConfig'. -/
def checkConfigUptoCard : Claim7 := { stood := { row := checkConfigUptoRow, standIns := [], harness := (true, "41a0dbc09b8e3d5120018f64672712b1264573892bc6314f1678022f37f8d7db"), looks := true }, kinds := [], alts := [], laidByText := true, laidKinds := [.handle, .sentinel, .sentinel, .sentinel, .sentinel, .sentinel, .sentinel, .sentinel, .sentinel, .sentinel, .sentinel], laidTests := true, laidLooks := .later }
def CheckConfigUptoCardSaid : Prop := Claim7.holds Tryz.pinned (.plain (OpenSpec.upto checkConfigSpec)) checkConfigUptoCard

/-- THE SECOND FORM's CARD OF 'syncopelaw5.TextLimits'. -/
def textLimitsUptoCard : Claim7 := { stood := { row := textLimitsUptoRow, standIns := [], harness := (true, "41a0dbc09b8e3d5120018f64672712b1264573892bc6314f1678022f37f8d7db"), looks := true }, kinds := [], alts := [], laidByText := true, laidKinds := [.data, .data, .data, .data, .handle, .sentinel, .sentinel, .sentinel, .sentinel, .sentinel, .sentinel, .sentinel, .sentinel, .sentinel, .sentinel, .sentinel, .sentinel, .data, .pinned], laidTests := true, laidLooks := .later }
def TextLimitsUptoCardSaid : Prop := Claim7.holds Tryz.pinned (.plain (OpenSpec.upto textLimitsSpec)) textLimitsUptoCard
end Rows
end Go.Proofs.YtbobjhadckeieaaGreatDoor
