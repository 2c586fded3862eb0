/-
  DERIVED. GIVEN WITH THE SEED: THE CARDS: each row of YtbobjhadckeieaaDoorRows.lean that lists a variable, with what it lists TIED to the program's text (the seventh form; the later family's looks); each row that meets fmt, with fmt's text TOLD by the authors' own Lean function (tested against real Go, not proved from fmt's source: count such statements apart). THE CARD IS WHAT COUNTS. Prove the row's statement (the work); the ties are given (YtbobjhadckeieaaDoorTie.lean); close each card by the builder's one call (the guide's Derived/Test/ToyasCard.lean, 'card_holds'). Laid BY PROGRAM, IN A SANDBOX (cutbox-door.mjs). By AI agents, Wed Nov 11 2026. No macro, syntax, notation, axiom, sorry.
-/
import Derived.Test.YtbobjhadckeieaaDoorRows
import GoSem.ClaimSeven
namespace Go.Proofs.YtbobjhadckeieaaDoor
namespace Rows

/-- THE TIED CARD OF 'syncopelaw6.CheckBuilt'. -/
def checkBuiltCard : Claim7 := { stood := { row := checkBuiltRow, standIns := [], harness := (true, "8e61c1ab3b178f2128ca9b45dea80621d7509bbf5ccf3f6093d5135aece4c5c5"), looks := true }, kinds := [], alts := [], laidByText := true, laidKinds := [.handle, .sentinel, .sentinel, .sentinel, .sentinel, .sentinel, .sentinel, .sentinel, .sentinel, .sentinel, .sentinel], laidTests := true, laidLooks := .later }
def CheckBuiltCardSaid : Prop := Claim7.holds Tryd.pinned (.plain (OpenSpec.ofChange checkBuiltSpec)) checkBuiltCard

/-- THE TIED CARD OF 'syncopelaw1.BlameChain'. -/
def blameChainCard : Claim7 := { stood := { row := blameChainRow, standIns := [], harness := (true, "8e61c1ab3b178f2128ca9b45dea80621d7509bbf5ccf3f6093d5135aece4c5c5"), looks := true }, kinds := [], alts := [], laidByText := true, laidKinds := [.handle, .sentinel, .sentinel, .sentinel, .sentinel, .sentinel, .sentinel, .sentinel, .sentinel, .sentinel, .sentinel], laidTests := true, laidLooks := .later }
def BlameChainCardSaid : Prop := Claim7.holds Tryd.pinned (.plain (OpenSpec.ofChange blameChainSpec)) blameChainCard

/-- THE TIED CARD OF 'syncopelaw1.BlameText'. -/
def blameTextCard : Claim7 := { stood := { row := blameTextRow, standIns := [], harness := (true, "8e61c1ab3b178f2128ca9b45dea80621d7509bbf5ccf3f6093d5135aece4c5c5"), looks := true }, kinds := [], alts := [], laidByText := true, laidKinds := [.data, .data, .data, .handle, .sentinel, .sentinel, .sentinel, .sentinel, .sentinel, .sentinel, .sentinel, .sentinel, .sentinel, .sentinel], laidTests := true, laidLooks := .later }
def BlameTextCardSaid : Prop := Claim7.holds Tryd.pinned (.plain (OpenSpec.ofChange blameTextSpec)) blameTextCard

/-- THE SECOND FORM's CARD OF 'syncopelaw6.CheckBuilt'. -/
def checkBuiltUptoCard : Claim7 := { stood := { row := checkBuiltUptoRow, standIns := [], harness := (true, "8e61c1ab3b178f2128ca9b45dea80621d7509bbf5ccf3f6093d5135aece4c5c5"), looks := true }, kinds := [], alts := [], laidByText := true, laidKinds := [.handle, .sentinel, .sentinel, .sentinel, .sentinel, .sentinel, .sentinel, .sentinel, .sentinel, .sentinel, .sentinel], laidTests := true, laidLooks := .later }
def CheckBuiltUptoCardSaid : Prop := Claim7.holds Tryd.pinned (.plain (OpenSpec.upto checkBuiltSpec)) checkBuiltUptoCard

/-- THE SECOND FORM's CARD OF 'syncopelaw1.BlameChain'. -/
def blameChainUptoCard : Claim7 := { stood := { row := blameChainUptoRow, standIns := [], harness := (true, "8e61c1ab3b178f2128ca9b45dea80621d7509bbf5ccf3f6093d5135aece4c5c5"), looks := true }, kinds := [], alts := [], laidByText := true, laidKinds := [.handle, .sentinel, .sentinel, .sentinel, .sentinel, .sentinel, .sentinel, .sentinel, .sentinel, .sentinel, .sentinel], laidTests := true, laidLooks := .later }
def BlameChainUptoCardSaid : Prop := Claim7.holds Tryd.pinned (.plain (OpenSpec.upto blameChainSpec)) blameChainUptoCard

/-- THE SECOND FORM's CARD OF 'syncopelaw1.BlameText'. -/
def blameTextUptoCard : Claim7 := { stood := { row := blameTextUptoRow, standIns := [], harness := (true, "8e61c1ab3b178f2128ca9b45dea80621d7509bbf5ccf3f6093d5135aece4c5c5"), looks := true }, kinds := [], alts := [], laidByText := true, laidKinds := [.data, .data, .data, .handle, .sentinel, .sentinel, .sentinel, .sentinel, .sentinel, .sentinel, .sentinel, .sentinel, .sentinel, .sentinel], laidTests := true, laidLooks := .later }
def BlameTextUptoCardSaid : Prop := Claim7.holds Tryd.pinned (.plain (OpenSpec.upto blameTextSpec)) blameTextUptoCard
end Rows
end Go.Proofs.YtbobjhadckeieaaDoor
