/-
  No cell of these rows narrows 'for every input' (looked for: loops, veiled, ifaces, maps, wideKeys, modest, calm, conditions, laid).
  DERIVED. THE GIVEN ROWS OF THIS SEAT. 3 by the template 'for every input the law returns true; each argument reads behind the call as it read before'; 0 by the template 'total and deterministic' (their statements: YtppnhcdmaokjcaaTotals.lean).
  GIVEN WITH THE SEED: the statements are not yours to turn. If you find one false, say at which input.
  Laid BY PROGRAM, IN A SANDBOX (cutbox-rows.mjs): the forced cells as the released guide's own fill.sh prints them over the translation 4f742e2c05add0bd… (all of the seat's roots in one cut). By AI agents, Wed Nov 11 2026. No macro, syntax, notation, axiom, sorry.
-/
import Derived.Test.YtppnhcdmaokjcaaChecked
import GoSem.Claim
import GoSem.ClaimJoined
import GoSem.ClaimMapViews
import Derived.JoinedTies
import Derived.KernelRfl
namespace Go.Proofs.Ytppnhcdmaokjcaa
/- THE CELL 'sum', in the pinned program and in every row, IS THE sha256 OF THE DUMP (.gsa) THAT YtppnhcdmaokjcaaProg.lean LOADS. Nothing in Lean hashes anything: it is a label: what it is worth is what the hold of that sum in a sandbox is worth. -/
noncomputable def Try.pinned : Pinned := { name := "ytppnhcdmaokjcaa", sum := "4f742e2c05add0bd710676c99b96b904667bef4936c4c877c089199aea5e5ac7", checked := Try.checked }
namespace Rows
def none {H : Type} : Left H := { results := [], args := [] }

/-- 'syncopelaw13.ReadsAsks': WHATEVER THE INPUT: true; the input reads as it did. -/
def readsAsksSpec : ChangeSpec := { name := "readsAsks", fn := fun _ => fun
  | [d1, d2, d3] => { results := [.lit (.bool true)], args := [d1, d2, d3] }
  | _ => none }
def readsAsksRow : OpenClaim := { program := "ytppnhcdmaokjcaa", sum := "4f742e2c05add0bd710676c99b96b904667bef4936c4c877c089199aea5e5ac7", func := "syncope/syncopelaw13.ReadsAsks", spec := "readsAsks", apart := false }
def ReadsAsksSaid : Prop := readsAsksRow.holds Try.pinned (OpenSpec.ofChange readsAsksSpec)

/-- ITS FALSE NEIGHBOUR: 'it returns false'. Refute it at one input. -/
def readsAsksWrong : ChangeSpec := { name := "readsAsks", fn := fun _ => fun
  | [d1, d2, d3] => { results := [.lit (.bool false)], args := [d1, d2, d3] }
  | _ => none }
def ReadsAsksWrongFalsely : Prop := readsAsksRow.holds Try.pinned (OpenSpec.ofChange readsAsksWrong)

/-- 'syncopelaw13.ReadsFirst': WHATEVER THE INPUT: true; the input reads as it did. -/
def readsFirstSpec : ChangeSpec := { name := "readsFirst", fn := fun _ => fun
  | [d1, d2] => { results := [.lit (.bool true)], args := [d1, d2] }
  | _ => none }
def readsFirstRow : OpenClaim := { program := "ytppnhcdmaokjcaa", sum := "4f742e2c05add0bd710676c99b96b904667bef4936c4c877c089199aea5e5ac7", func := "syncope/syncopelaw13.ReadsFirst", spec := "readsFirst", apart := false }
def ReadsFirstSaid : Prop := readsFirstRow.holds Try.pinned (OpenSpec.ofChange readsFirstSpec)

/-- ITS FALSE NEIGHBOUR: 'it returns false'. Refute it at one input. -/
def readsFirstWrong : ChangeSpec := { name := "readsFirst", fn := fun _ => fun
  | [d1, d2] => { results := [.lit (.bool false)], args := [d1, d2] }
  | _ => none }
def ReadsFirstWrongFalsely : Prop := readsFirstRow.holds Try.pinned (OpenSpec.ofChange readsFirstWrong)

/-- 'syncopelaw13.ReadsRoom': WHATEVER THE INPUT: true; the input reads as it did. -/
def readsRoomSpec : ChangeSpec := { name := "readsRoom", fn := fun _ => fun
  | [d1, d2] => { results := [.lit (.bool true)], args := [d1, d2] }
  | _ => none }
def readsRoomRow : OpenClaim := { program := "ytppnhcdmaokjcaa", sum := "4f742e2c05add0bd710676c99b96b904667bef4936c4c877c089199aea5e5ac7", func := "syncope/syncopelaw13.ReadsRoom", spec := "readsRoom", apart := false }
def ReadsRoomSaid : Prop := readsRoomRow.holds Try.pinned (OpenSpec.ofChange readsRoomSpec)

/-- ITS FALSE NEIGHBOUR: 'it returns false'. Refute it at one input. -/
def readsRoomWrong : ChangeSpec := { name := "readsRoom", fn := fun _ => fun
  | [d1, d2] => { results := [.lit (.bool false)], args := [d1, d2] }
  | _ => none }
def ReadsRoomWrongFalsely : Prop := readsRoomRow.holds Try.pinned (OpenSpec.ofChange readsRoomWrong)

/- THE SECOND FORM. 'bulk': how many values and letters a reading holds, each counted each time it is reached (what is shared counts as often as it is met; a slice's spare places count too). A statement '..UptoSaid' is the law's where the arguments, and the package variables that the reading takes, are together of bulk at most 1048576: NARROWER than '..Said'. Prove '..Said' where nothing that the law and all that it calls make is longer than what came in: it says more and counts as full. Else prove '..UptoSaid'. A law counts once. -/
mutual
def uptoBulk {H : Type} : DataW H → Nat
  | .lit (.string bytes) => bytes.length + 1
  | .lit _ => 1
  | .nil => 1
  | .ptr d => uptoBulk d + 1
  | .slice elems spare => uptoBulkAll elems + uptoBulkAll spare + 1
  | .agg parts => uptoBulkAll parts + 1
  | .iface _ d => uptoBulk d + 1
  | .map entries => uptoBulkEntries entries + 1
  | .held _ => 1
def uptoBulkAll {H : Type} : List (DataW H) → Nat
  | [] => 0
  | d :: r => uptoBulk d + uptoBulkAll r
def uptoBulkEntries {H : Type} : List (Lit × DataW H) → Nat
  | [] => 0
  | x :: r => uptoBulkEntry x + uptoBulkEntries r
def uptoBulkEntry {H : Type} : Lit × DataW H → Nat
  | (.string bytes, d) => bytes.length + uptoBulk d + 1
  | (_, d) => uptoBulk d + 1
 end
def uptoSmall : (H : Type) → List (DataW H) → Bool := fun _ ds => decide (uptoBulkAll ds ≤ 1048576)
def OpenSpec.upto (s : _root_.Go.ChangeSpec) : _root_.Go.OpenSpec := { _root_.Go.OpenSpec.ofChange s with cond := some uptoSmall }

/-- 'syncopelaw13.ReadsAsks', WHERE WHAT IT READS IS OF BULK AT MOST 1048576: true; the input reads as it did. -/
def readsAsksUptoRow : OpenClaim := { program := "ytppnhcdmaokjcaa", sum := "4f742e2c05add0bd710676c99b96b904667bef4936c4c877c089199aea5e5ac7", func := "syncope/syncopelaw13.ReadsAsks", spec := "readsAsks", apart := false, narrowed := true }
def ReadsAsksUptoSaid : Prop := readsAsksUptoRow.holds Try.pinned (OpenSpec.upto readsAsksSpec)

/-- 'syncopelaw13.ReadsFirst', WHERE WHAT IT READS IS OF BULK AT MOST 1048576: true; the input reads as it did. -/
def readsFirstUptoRow : OpenClaim := { program := "ytppnhcdmaokjcaa", sum := "4f742e2c05add0bd710676c99b96b904667bef4936c4c877c089199aea5e5ac7", func := "syncope/syncopelaw13.ReadsFirst", spec := "readsFirst", apart := false, narrowed := true }
def ReadsFirstUptoSaid : Prop := readsFirstUptoRow.holds Try.pinned (OpenSpec.upto readsFirstSpec)

/-- 'syncopelaw13.ReadsRoom', WHERE WHAT IT READS IS OF BULK AT MOST 1048576: true; the input reads as it did. -/
def readsRoomUptoRow : OpenClaim := { program := "ytppnhcdmaokjcaa", sum := "4f742e2c05add0bd710676c99b96b904667bef4936c4c877c089199aea5e5ac7", func := "syncope/syncopelaw13.ReadsRoom", spec := "readsRoom", apart := false, narrowed := true }
def ReadsRoomUptoSaid : Prop := readsRoomUptoRow.holds Try.pinned (OpenSpec.upto readsRoomSpec)

end Rows
end Go.Proofs.Ytppnhcdmaokjcaa
