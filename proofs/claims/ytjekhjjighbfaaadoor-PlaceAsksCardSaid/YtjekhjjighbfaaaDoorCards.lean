/-
  DERIVED. GIVEN WITH THE SEED: THE CARDS: each row of YtjekhjjighbfaaaDoorRows.lean that lists a variable, with what it lists TIED to the program's text (the seventh form; the later family's looks); each row that meets fmt, with fmt's text TOLD by the authors' own Lean function (tested against real Go, not proved from fmt's source: count such statements apart). THE CARD IS WHAT COUNTS. Prove the row's statement (the work); the ties are given (YtjekhjjighbfaaaDoorTie.lean); close each card by the builder's one call (the guide's Derived/Test/ToyasCard.lean, 'card_holds'). Laid BY PROGRAM, IN A SANDBOX (cutbox-door.mjs). By AI agents, Wed Nov 11 2026. No macro, syntax, notation, axiom, sorry.
-/
import Derived.Test.YtjekhjjighbfaaaDoorRows
import GoSem.ClaimSeven
namespace Go.Proofs.YtjekhjjighbfaaaDoor
namespace Rows

/-- THE TIED CARD OF 'syncopelaw3.PlaceAsks'. -/
def placeAsksCard : Claim7 := { stood := { row := placeAsksRow, standIns := [], harness := (true, "28cd68ec4c8e9718688345fc4a8975a6b7365ba85dd7e28968ac149f4fb6dc23"), looks := false }, kinds := [], alts := [], laidByText := true, laidKinds := [.data, .data, .data], laidTests := true, laidLooks := .later }
def PlaceAsksCardSaid : Prop := Claim7.holds Tryd.pinned (.plain (OpenSpec.ofChange placeAsksSpec)) placeAsksCard

/-- THE TIED CARD OF 'syncopelaw3.PlaceOnce'. -/
def placeOnceCard : Claim7 := { stood := { row := placeOnceRow, standIns := [], harness := (true, "28cd68ec4c8e9718688345fc4a8975a6b7365ba85dd7e28968ac149f4fb6dc23"), looks := false }, kinds := [], alts := [], laidByText := true, laidKinds := [.data, .data, .data], laidTests := true, laidLooks := .later }
def PlaceOnceCardSaid : Prop := Claim7.holds Tryd.pinned (.plain (OpenSpec.ofChange placeOnceSpec)) placeOnceCard

/-- THE TIED CARD OF 'syncopelaw3.PlaceNames'. -/
def placeNamesCard : Claim7 := { stood := { row := placeNamesRow, standIns := [], harness := (true, "28cd68ec4c8e9718688345fc4a8975a6b7365ba85dd7e28968ac149f4fb6dc23"), looks := false }, kinds := [], alts := [], laidByText := true, laidKinds := [.data, .data, .data], laidTests := true, laidLooks := .later }
def PlaceNamesCardSaid : Prop := Claim7.holds Tryd.pinned (.plain (OpenSpec.ofChange placeNamesSpec)) placeNamesCard

/-- THE TIED CARD OF 'syncopelaw3.PlaceHash'. -/
def placeHashCard : Claim7 := { stood := { row := placeHashRow, standIns := [], harness := (true, "28cd68ec4c8e9718688345fc4a8975a6b7365ba85dd7e28968ac149f4fb6dc23"), looks := false }, kinds := [], alts := [], laidByText := true, laidKinds := [.data, .data, .data], laidTests := true, laidLooks := .later }
def PlaceHashCardSaid : Prop := Claim7.holds Tryd.pinned (.plain (OpenSpec.ofChange placeHashSpec)) placeHashCard

/-- THE TIED CARD OF 'syncopelaw3.PlaceGrows'. -/
def placeGrowsCard : Claim7 := { stood := { row := placeGrowsRow, standIns := [], harness := (true, "28cd68ec4c8e9718688345fc4a8975a6b7365ba85dd7e28968ac149f4fb6dc23"), looks := false }, kinds := [], alts := [], laidByText := true, laidKinds := [.data, .data, .data], laidTests := true, laidLooks := .later }
def PlaceGrowsCardSaid : Prop := Claim7.holds Tryd.pinned (.plain (OpenSpec.ofChange placeGrowsSpec)) placeGrowsCard

/-- THE SECOND FORM's CARD OF 'syncopelaw3.PlaceAsks'. -/
def placeAsksUptoCard : Claim7 := { stood := { row := placeAsksUptoRow, standIns := [], harness := (true, "28cd68ec4c8e9718688345fc4a8975a6b7365ba85dd7e28968ac149f4fb6dc23"), looks := false }, kinds := [], alts := [], laidByText := true, laidKinds := [.data, .data, .data], laidTests := true, laidLooks := .later }
def PlaceAsksUptoCardSaid : Prop := Claim7.holds Tryd.pinned (.plain (OpenSpec.upto placeAsksSpec)) placeAsksUptoCard

/-- THE SECOND FORM's CARD OF 'syncopelaw3.PlaceOnce'. -/
def placeOnceUptoCard : Claim7 := { stood := { row := placeOnceUptoRow, standIns := [], harness := (true, "28cd68ec4c8e9718688345fc4a8975a6b7365ba85dd7e28968ac149f4fb6dc23"), looks := false }, kinds := [], alts := [], laidByText := true, laidKinds := [.data, .data, .data], laidTests := true, laidLooks := .later }
def PlaceOnceUptoCardSaid : Prop := Claim7.holds Tryd.pinned (.plain (OpenSpec.upto placeOnceSpec)) placeOnceUptoCard

/-- THE SECOND FORM's CARD OF 'syncopelaw3.PlaceNames'. -/
def placeNamesUptoCard : Claim7 := { stood := { row := placeNamesUptoRow, standIns := [], harness := (true, "28cd68ec4c8e9718688345fc4a8975a6b7365ba85dd7e28968ac149f4fb6dc23"), looks := false }, kinds := [], alts := [], laidByText := true, laidKinds := [.data, .data, .data], laidTests := true, laidLooks := .later }
def PlaceNamesUptoCardSaid : Prop := Claim7.holds Tryd.pinned (.plain (OpenSpec.upto placeNamesSpec)) placeNamesUptoCard

/-- THE SECOND FORM's CARD OF 'syncopelaw3.PlaceHash'. -/
def placeHashUptoCard : Claim7 := { stood := { row := placeHashUptoRow, standIns := [], harness := (true, "28cd68ec4c8e9718688345fc4a8975a6b7365ba85dd7e28968ac149f4fb6dc23"), looks := false }, kinds := [], alts := [], laidByText := true, laidKinds := [.data, .data, .data], laidTests := true, laidLooks := .later }
def PlaceHashUptoCardSaid : Prop := Claim7.holds Tryd.pinned (.plain (OpenSpec.upto placeHashSpec)) placeHashUptoCard

/-- THE SECOND FORM's CARD OF 'syncopelaw3.PlaceGrows'. -/
def placeGrowsUptoCard : Claim7 := { stood := { row := placeGrowsUptoRow, standIns := [], harness := (true, "28cd68ec4c8e9718688345fc4a8975a6b7365ba85dd7e28968ac149f4fb6dc23"), looks := false }, kinds := [], alts := [], laidByText := true, laidKinds := [.data, .data, .data], laidTests := true, laidLooks := .later }
def PlaceGrowsUptoCardSaid : Prop := Claim7.holds Tryd.pinned (.plain (OpenSpec.upto placeGrowsSpec)) placeGrowsUptoCard
end Rows
end Go.Proofs.YtjekhjjighbfaaaDoor
