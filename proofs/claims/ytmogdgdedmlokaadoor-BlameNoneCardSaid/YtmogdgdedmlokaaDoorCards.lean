/-
  DERIVED. GIVEN WITH THE SEED: THE CARDS: each row of YtmogdgdedmlokaaDoorRows.lean that lists a variable, with what it lists TIED to the program's text (the seventh form; the later family's looks); each row that meets fmt, with fmt's text TOLD by the authors' own Lean function (tested against real Go, not proved from fmt's source: count such statements apart). THE CARD IS WHAT COUNTS. Prove the row's statement (the work); the ties are given (YtmogdgdedmlokaaDoorTie.lean); close each card by the builder's one call (the guide's Derived/Test/ToyasCard.lean, 'card_holds'). Laid BY PROGRAM, IN A SANDBOX (cutbox-door.mjs). By AI agents, Wed Nov 11 2026. No macro, syntax, notation, axiom, sorry.
-/
import Derived.Test.YtmogdgdedmlokaaDoorRows
import GoSem.ClaimSeven
namespace Go.Proofs.YtmogdgdedmlokaaDoor
namespace Rows

/-- THE TIED CARD OF 'syncopelaw6.CheckBuilt'. -/
def checkBuiltCard : Claim7 := { stood := { row := checkBuiltRow, standIns := [], harness := (true, "bcfb3f6d8926b59842c55be813689fc6683c3a051e7bce555742da6abf766449"), looks := true }, kinds := [], alts := [], laidByText := true, laidKinds := [.handle, .sentinel, .sentinel, .sentinel, .sentinel, .sentinel, .sentinel, .sentinel, .sentinel, .sentinel, .sentinel], laidTests := true, laidLooks := .later }
def CheckBuiltCardSaid : Prop := Claim7.holds Tryd.pinned (.plain (OpenSpec.ofChange checkBuiltSpec)) checkBuiltCard

/-- THE TIED CARD OF 'syncopelaw6.CheckOrder'. -/
def checkOrderCard : Claim7 := { stood := { row := checkOrderRow, standIns := [], harness := (true, "bcfb3f6d8926b59842c55be813689fc6683c3a051e7bce555742da6abf766449"), looks := true }, kinds := [], alts := [], laidByText := true, laidKinds := [.handle, .sentinel, .sentinel, .sentinel, .sentinel, .sentinel, .sentinel, .sentinel, .sentinel, .sentinel, .sentinel], laidTests := true, laidLooks := .later }
def CheckOrderCardSaid : Prop := Claim7.holds Tryd.pinned (.plain (OpenSpec.ofChange checkOrderSpec)) checkOrderCard

/-- THE TIED CARD OF 'syncopelaw6.CheckModes'. -/
def checkModesCard : Claim7 := { stood := { row := checkModesRow, standIns := [], harness := (true, "bcfb3f6d8926b59842c55be813689fc6683c3a051e7bce555742da6abf766449"), looks := true }, kinds := [], alts := [], laidByText := true, laidKinds := [.handle, .sentinel, .sentinel, .sentinel, .sentinel, .sentinel, .sentinel, .sentinel, .sentinel, .sentinel, .sentinel], laidTests := true, laidLooks := .later }
def CheckModesCardSaid : Prop := Claim7.holds Tryd.pinned (.plain (OpenSpec.ofChange checkModesSpec)) checkModesCard

/-- THE TIED CARD OF 'syncopelaw6.CheckRegion'. -/
def checkRegionCard : Claim7 := { stood := { row := checkRegionRow, standIns := [], harness := (true, "bcfb3f6d8926b59842c55be813689fc6683c3a051e7bce555742da6abf766449"), looks := true }, kinds := [], alts := [], laidByText := true, laidKinds := [.handle, .sentinel, .sentinel, .sentinel, .sentinel, .sentinel, .sentinel, .sentinel, .sentinel, .sentinel, .sentinel], laidTests := true, laidLooks := .later }
def CheckRegionCardSaid : Prop := Claim7.holds Tryd.pinned (.plain (OpenSpec.ofChange checkRegionSpec)) checkRegionCard

/-- THE TIED CARD OF 'syncopelaw1.BlameChain'. -/
def blameChainCard : Claim7 := { stood := { row := blameChainRow, standIns := [], harness := (true, "bcfb3f6d8926b59842c55be813689fc6683c3a051e7bce555742da6abf766449"), looks := true }, kinds := [], alts := [], laidByText := true, laidKinds := [.handle, .sentinel, .sentinel, .sentinel, .sentinel, .sentinel, .sentinel, .sentinel, .sentinel, .sentinel, .sentinel], laidTests := true, laidLooks := .later }
def BlameChainCardSaid : Prop := Claim7.holds Tryd.pinned (.plain (OpenSpec.ofChange blameChainSpec)) blameChainCard

/-- THE TIED CARD OF 'syncopelaw1.BlameText'. -/
def blameTextCard : Claim7 := { stood := { row := blameTextRow, standIns := [], harness := (true, "bcfb3f6d8926b59842c55be813689fc6683c3a051e7bce555742da6abf766449"), looks := true }, kinds := [], alts := [], laidByText := true, laidKinds := [.data, .data, .data, .handle, .sentinel, .sentinel, .sentinel, .sentinel, .sentinel, .sentinel, .sentinel, .sentinel, .sentinel, .sentinel], laidTests := true, laidLooks := .later }
def BlameTextCardSaid : Prop := Claim7.holds Tryd.pinned (.plain (OpenSpec.ofChange blameTextSpec)) blameTextCard

/-- THE TIED CARD OF 'syncopelaw1.BlameNone'. -/
def blameNoneCard : Claim7 := { stood := { row := blameNoneRow, standIns := [], harness := (true, "bcfb3f6d8926b59842c55be813689fc6683c3a051e7bce555742da6abf766449"), looks := true }, kinds := [], alts := [], laidByText := true, laidKinds := [.handle, .sentinel, .sentinel, .sentinel, .sentinel, .sentinel, .sentinel, .sentinel, .sentinel, .sentinel, .sentinel], laidTests := true, laidLooks := .later }
def BlameNoneCardSaid : Prop := Claim7.holds Tryd.pinned (.plain (OpenSpec.ofChange blameNoneSpec)) blameNoneCard

/-- THE SECOND FORM's CARD OF 'syncopelaw6.CheckBuilt'. -/
def checkBuiltUptoCard : Claim7 := { stood := { row := checkBuiltUptoRow, standIns := [], harness := (true, "bcfb3f6d8926b59842c55be813689fc6683c3a051e7bce555742da6abf766449"), looks := true }, kinds := [], alts := [], laidByText := true, laidKinds := [.handle, .sentinel, .sentinel, .sentinel, .sentinel, .sentinel, .sentinel, .sentinel, .sentinel, .sentinel, .sentinel], laidTests := true, laidLooks := .later }
def CheckBuiltUptoCardSaid : Prop := Claim7.holds Tryd.pinned (.plain (OpenSpec.upto checkBuiltSpec)) checkBuiltUptoCard

/-- THE SECOND FORM's CARD OF 'syncopelaw6.CheckOrder'. -/
def checkOrderUptoCard : Claim7 := { stood := { row := checkOrderUptoRow, standIns := [], harness := (true, "bcfb3f6d8926b59842c55be813689fc6683c3a051e7bce555742da6abf766449"), looks := true }, kinds := [], alts := [], laidByText := true, laidKinds := [.handle, .sentinel, .sentinel, .sentinel, .sentinel, .sentinel, .sentinel, .sentinel, .sentinel, .sentinel, .sentinel], laidTests := true, laidLooks := .later }
def CheckOrderUptoCardSaid : Prop := Claim7.holds Tryd.pinned (.plain (OpenSpec.upto checkOrderSpec)) checkOrderUptoCard

/-- THE SECOND FORM's CARD OF 'syncopelaw6.CheckModes'. -/
def checkModesUptoCard : Claim7 := { stood := { row := checkModesUptoRow, standIns := [], harness := (true, "bcfb3f6d8926b59842c55be813689fc6683c3a051e7bce555742da6abf766449"), looks := true }, kinds := [], alts := [], laidByText := true, laidKinds := [.handle, .sentinel, .sentinel, .sentinel, .sentinel, .sentinel, .sentinel, .sentinel, .sentinel, .sentinel, .sentinel], laidTests := true, laidLooks := .later }
def CheckModesUptoCardSaid : Prop := Claim7.holds Tryd.pinned (.plain (OpenSpec.upto checkModesSpec)) checkModesUptoCard

/-- THE SECOND FORM's CARD OF 'syncopelaw6.CheckRegion'. -/
def checkRegionUptoCard : Claim7 := { stood := { row := checkRegionUptoRow, standIns := [], harness := (true, "bcfb3f6d8926b59842c55be813689fc6683c3a051e7bce555742da6abf766449"), looks := true }, kinds := [], alts := [], laidByText := true, laidKinds := [.handle, .sentinel, .sentinel, .sentinel, .sentinel, .sentinel, .sentinel, .sentinel, .sentinel, .sentinel, .sentinel], laidTests := true, laidLooks := .later }
def CheckRegionUptoCardSaid : Prop := Claim7.holds Tryd.pinned (.plain (OpenSpec.upto checkRegionSpec)) checkRegionUptoCard

/-- THE SECOND FORM's CARD OF 'syncopelaw1.BlameChain'. -/
def blameChainUptoCard : Claim7 := { stood := { row := blameChainUptoRow, standIns := [], harness := (true, "bcfb3f6d8926b59842c55be813689fc6683c3a051e7bce555742da6abf766449"), looks := true }, kinds := [], alts := [], laidByText := true, laidKinds := [.handle, .sentinel, .sentinel, .sentinel, .sentinel, .sentinel, .sentinel, .sentinel, .sentinel, .sentinel, .sentinel], laidTests := true, laidLooks := .later }
def BlameChainUptoCardSaid : Prop := Claim7.holds Tryd.pinned (.plain (OpenSpec.upto blameChainSpec)) blameChainUptoCard

/-- THE SECOND FORM's CARD OF 'syncopelaw1.BlameText'. -/
def blameTextUptoCard : Claim7 := { stood := { row := blameTextUptoRow, standIns := [], harness := (true, "bcfb3f6d8926b59842c55be813689fc6683c3a051e7bce555742da6abf766449"), looks := true }, kinds := [], alts := [], laidByText := true, laidKinds := [.data, .data, .data, .handle, .sentinel, .sentinel, .sentinel, .sentinel, .sentinel, .sentinel, .sentinel, .sentinel, .sentinel, .sentinel], laidTests := true, laidLooks := .later }
def BlameTextUptoCardSaid : Prop := Claim7.holds Tryd.pinned (.plain (OpenSpec.upto blameTextSpec)) blameTextUptoCard

/-- THE SECOND FORM's CARD OF 'syncopelaw1.BlameNone'. -/
def blameNoneUptoCard : Claim7 := { stood := { row := blameNoneUptoRow, standIns := [], harness := (true, "bcfb3f6d8926b59842c55be813689fc6683c3a051e7bce555742da6abf766449"), looks := true }, kinds := [], alts := [], laidByText := true, laidKinds := [.handle, .sentinel, .sentinel, .sentinel, .sentinel, .sentinel, .sentinel, .sentinel, .sentinel, .sentinel, .sentinel], laidTests := true, laidLooks := .later }
def BlameNoneUptoCardSaid : Prop := Claim7.holds Tryd.pinned (.plain (OpenSpec.upto blameNoneSpec)) blameNoneUptoCard
end Rows
end Go.Proofs.YtmogdgdedmlokaaDoor
