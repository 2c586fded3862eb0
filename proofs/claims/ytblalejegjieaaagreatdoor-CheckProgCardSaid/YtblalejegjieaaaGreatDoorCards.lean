/-
  DERIVED. GIVEN WITH THE SEED: THE CARDS: each row of YtblalejegjieaaaGreatDoorRows.lean that lists a variable, with what it lists TIED to the program's text (the seventh form; the later family's looks); each row that meets fmt, with fmt's text TOLD by the authors' own Lean function (tested against real Go, not proved from fmt's source: count such statements apart). THE CARD IS WHAT COUNTS. Prove the row's statement (the work); the ties are given (YtblalejegjieaaaGreatDoorTie.lean); close each card by the builder's one call (the guide's Derived/Test/ToyasCard.lean, 'card_holds'). Laid BY PROGRAM, IN A SANDBOX (cutbox-door.mjs). By AI agents, Wed Nov 11 2026. No macro, syntax, notation, axiom, sorry.
-/
import Derived.Test.YtblalejegjieaaaGreatDoorRows
import GoSem.ClaimSeven
namespace Go.Proofs.YtblalejegjieaaaGreatDoor
namespace Rows

/-- THE TIED CARD OF 'syncopelaw6.CheckProg'. -/
def checkProgCard : Claim7 := { stood := { row := checkProgRow, standIns := [], harness := (true, "85db4075f1c34e1952df0562ac457157e0135c0c9211e28791806e14d0331df5"), looks := true }, kinds := [], alts := [], laidByText := true, laidKinds := [.handle, .sentinel, .sentinel, .sentinel, .sentinel, .sentinel, .sentinel, .sentinel, .sentinel, .sentinel, .sentinel], laidTests := true, laidLooks := .later }
def CheckProgCardSaid : Prop := Claim7.holds Tryz.pinned (.plain (OpenSpec.ofChange checkProgSpec)) checkProgCard

/-- THE TIED CARD OF 'syncopelaw6.CheckConfig'. -/
def checkConfigCard : Claim7 := { stood := { row := checkConfigRow, standIns := [], harness := (true, "85db4075f1c34e1952df0562ac457157e0135c0c9211e28791806e14d0331df5"), looks := true }, kinds := [], alts := [], laidByText := true, laidKinds := [.handle, .sentinel, .sentinel, .sentinel, .sentinel, .sentinel, .sentinel, .sentinel, .sentinel, .sentinel, .sentinel], laidTests := true, laidLooks := .later }
def CheckConfigCardSaid : Prop := Claim7.holds Tryz.pinned (.plain (OpenSpec.ofChange checkConfigSpec)) checkConfigCard

/-- THE SECOND FORM's CARD OF 'syncopelaw6.CheckProg'. -/
def checkProgUptoCard : Claim7 := { stood := { row := checkProgUptoRow, standIns := [], harness := (true, "85db4075f1c34e1952df0562ac457157e0135c0c9211e28791806e14d0331df5"), looks := true }, kinds := [], alts := [], laidByText := true, laidKinds := [.handle, .sentinel, .sentinel, .sentinel, .sentinel, .sentinel, .sentinel, .sentinel, .sentinel, .sentinel, .sentinel], laidTests := true, laidLooks := .later }
def CheckProgUptoCardSaid : Prop := Claim7.holds Tryz.pinned (.plain (OpenSpec.upto checkProgSpec)) checkProgUptoCard

/-- THE SECOND FORM's CARD OF 'syncopelaw6.CheckConfig'. -/
def checkConfigUptoCard : Claim7 := { stood := { row := checkConfigUptoRow, standIns := [], harness := (true, "85db4075f1c34e1952df0562ac457157e0135c0c9211e28791806e14d0331df5"), looks := true }, kinds := [], alts := [], laidByText := true, laidKinds := [.handle, .sentinel, .sentinel, .sentinel, .sentinel, .sentinel, .sentinel, .sentinel, .sentinel, .sentinel, .sentinel], laidTests := true, laidLooks := .later }
def CheckConfigUptoCardSaid : Prop := Claim7.holds Tryz.pinned (.plain (OpenSpec.upto checkConfigSpec)) checkConfigUptoCard
end Rows
end Go.Proofs.YtblalejegjieaaaGreatDoor
