/-
  No cell of these rows narrows 'for every input' (looked for: loops, veiled, ifaces, maps, wideKeys, modest, calm, conditions, laid).
  DERIVED. THE GIVEN ROWS OF THIS SEAT. 4 by the template 'for every input the law returns true; each argument reads behind the call as it read before'; 0 by the template 'total and deterministic' (their statements: YtdkjeggichgimaaTotals.lean).
  GIVEN WITH THE SEED: the statements are not yours to turn. If you find one false, say at which input.
  Laid BY PROGRAM, IN A SANDBOX (cutbox-rows.mjs): the forced cells as the released guide's own fill.sh prints them over the translation 58afa0e4d7ad7801… (all of the seat's roots in one cut). By AI agents, Wed Nov 11 2026. No macro, syntax, notation, axiom, sorry.
-/
import Derived.Test.YtdkjeggichgimaaChecked
import GoSem.Claim
import GoSem.ClaimJoined
import GoSem.ClaimMapViews
import Derived.JoinedTies
import Derived.KernelRfl
namespace Go.Proofs.Ytdkjeggichgimaa
/- THE CELL 'sum', in the pinned program and in every row, IS THE sha256 OF THE DUMP (.gsa) THAT YtdkjeggichgimaaProg.lean LOADS. Nothing in Lean hashes anything: it is a label: what it is worth is what the hold of that sum in a sandbox is worth. -/
noncomputable def Try.pinned : Pinned := { name := "ytdkjeggichgimaa", sum := "58afa0e4d7ad78011bd79f3f3a2394fc1350213aebc424ff03e03b4a81f56840", checked := Try.checked }
namespace Rows
def none {H : Type} : Left H := { results := [], args := [] }

/-- 'syncopelaw14.WritesAsks': WHATEVER THE INPUT: true; the input reads as it did. -/
def writesAsksSpec : ChangeSpec := { name := "writesAsks", fn := fun _ => fun
  | [d1, d2] => { results := [.lit (.bool true)], args := [d1, d2] }
  | _ => none }
def writesAsksRow : OpenClaim := { program := "ytdkjeggichgimaa", sum := "58afa0e4d7ad78011bd79f3f3a2394fc1350213aebc424ff03e03b4a81f56840", func := "syncope/syncopelaw14.WritesAsks", spec := "writesAsks", apart := false }
def WritesAsksSaid : Prop := writesAsksRow.holds Try.pinned (OpenSpec.ofChange writesAsksSpec)

/-- ITS FALSE NEIGHBOUR: 'it returns false'. Refute it at one input. -/
def writesAsksWrong : ChangeSpec := { name := "writesAsks", fn := fun _ => fun
  | [d1, d2] => { results := [.lit (.bool false)], args := [d1, d2] }
  | _ => none }
def WritesAsksWrongFalsely : Prop := writesAsksRow.holds Try.pinned (OpenSpec.ofChange writesAsksWrong)

/-- 'syncopelaw14.WritesLast': WHATEVER THE INPUT: true; the input reads as it did. -/
def writesLastSpec : ChangeSpec := { name := "writesLast", fn := fun _ => fun
  | [d1, d2] => { results := [.lit (.bool true)], args := [d1, d2] }
  | _ => none }
def writesLastRow : OpenClaim := { program := "ytdkjeggichgimaa", sum := "58afa0e4d7ad78011bd79f3f3a2394fc1350213aebc424ff03e03b4a81f56840", func := "syncope/syncopelaw14.WritesLast", spec := "writesLast", apart := false }
def WritesLastSaid : Prop := writesLastRow.holds Try.pinned (OpenSpec.ofChange writesLastSpec)

/-- ITS FALSE NEIGHBOUR: 'it returns false'. Refute it at one input. -/
def writesLastWrong : ChangeSpec := { name := "writesLast", fn := fun _ => fun
  | [d1, d2] => { results := [.lit (.bool false)], args := [d1, d2] }
  | _ => none }
def WritesLastWrongFalsely : Prop := writesLastRow.holds Try.pinned (OpenSpec.ofChange writesLastWrong)

/-- 'syncopelaw14.WritesFilter': WHATEVER THE INPUT: true; the input reads as it did. -/
def writesFilterSpec : ChangeSpec := { name := "writesFilter", fn := fun _ => fun
  | [d1, d2] => { results := [.lit (.bool true)], args := [d1, d2] }
  | _ => none }
def writesFilterRow : OpenClaim := { program := "ytdkjeggichgimaa", sum := "58afa0e4d7ad78011bd79f3f3a2394fc1350213aebc424ff03e03b4a81f56840", func := "syncope/syncopelaw14.WritesFilter", spec := "writesFilter", apart := false }
def WritesFilterSaid : Prop := writesFilterRow.holds Try.pinned (OpenSpec.ofChange writesFilterSpec)

/-- ITS FALSE NEIGHBOUR: 'it returns false'. Refute it at one input. -/
def writesFilterWrong : ChangeSpec := { name := "writesFilter", fn := fun _ => fun
  | [d1, d2] => { results := [.lit (.bool false)], args := [d1, d2] }
  | _ => none }
def WritesFilterWrongFalsely : Prop := writesFilterRow.holds Try.pinned (OpenSpec.ofChange writesFilterWrong)

/-- 'syncopelaw14.WritesRoom': WHATEVER THE INPUT: true; the input reads as it did. -/
def writesRoomSpec : ChangeSpec := { name := "writesRoom", fn := fun _ => fun
  | [d1, d2] => { results := [.lit (.bool true)], args := [d1, d2] }
  | _ => none }
def writesRoomRow : OpenClaim := { program := "ytdkjeggichgimaa", sum := "58afa0e4d7ad78011bd79f3f3a2394fc1350213aebc424ff03e03b4a81f56840", func := "syncope/syncopelaw14.WritesRoom", spec := "writesRoom", apart := false }
def WritesRoomSaid : Prop := writesRoomRow.holds Try.pinned (OpenSpec.ofChange writesRoomSpec)

/-- ITS FALSE NEIGHBOUR: 'it returns false'. Refute it at one input. -/
def writesRoomWrong : ChangeSpec := { name := "writesRoom", fn := fun _ => fun
  | [d1, d2] => { results := [.lit (.bool false)], args := [d1, d2] }
  | _ => none }
def WritesRoomWrongFalsely : Prop := writesRoomRow.holds Try.pinned (OpenSpec.ofChange writesRoomWrong)

/- THE SECOND FORM. 'bulk': how many values and letters a reading holds, each counted each time it is reached (what is shared counts as often as it is met; a slice's spare places count too). A statement '..UptoSaid' is the law's where the arguments, and the package variables that the reading takes, are together of bulk at most 1048576: NARROWER than '..Said'. Prove '..Said' where nothing that the law and all that it calls make is longer than what came in: it says more and counts as full. Else prove '..UptoSaid'. A law counts once. -/
mutual
def uptoBulk {H : Type} : DataW H → Nat
  | .lit (.string bytes) => bytes.length + 1
  | .lit _ => 1
  | .nil => 1
  | .ptr d => uptoBulk d + 1
  | .slice elems spare => uptoBulkAll elems + uptoBulkAll spare + 1
  | .agg parts => uptoBulkAll parts + 1
  | .iface _ d => uptoBulk d + 1
  | .map entries => uptoBulkEntries entries + 1
  | .held _ => 1
def uptoBulkAll {H : Type} : List (DataW H) → Nat
  | [] => 0
  | d :: r => uptoBulk d + uptoBulkAll r
def uptoBulkEntries {H : Type} : List (Lit × DataW H) → Nat
  | [] => 0
  | x :: r => uptoBulkEntry x + uptoBulkEntries r
def uptoBulkEntry {H : Type} : Lit × DataW H → Nat
  | (.string bytes, d) => bytes.length + uptoBulk d + 1
  | (_, d) => uptoBulk d + 1
 end
def uptoSmall : (H : Type) → List (DataW H) → Bool := fun _ ds => decide (uptoBulkAll ds ≤ 1048576)
def OpenSpec.upto (s : _root_.Go.ChangeSpec) : _root_.Go.OpenSpec := { _root_.Go.OpenSpec.ofChange s with cond := some uptoSmall }

/-- 'syncopelaw14.WritesAsks', WHERE WHAT IT READS IS OF BULK AT MOST 1048576: true; the input reads as it did. -/
def writesAsksUptoRow : OpenClaim := { program := "ytdkjeggichgimaa", sum := "58afa0e4d7ad78011bd79f3f3a2394fc1350213aebc424ff03e03b4a81f56840", func := "syncope/syncopelaw14.WritesAsks", spec := "writesAsks", apart := false, narrowed := true }
def WritesAsksUptoSaid : Prop := writesAsksUptoRow.holds Try.pinned (OpenSpec.upto writesAsksSpec)

/-- 'syncopelaw14.WritesLast', WHERE WHAT IT READS IS OF BULK AT MOST 1048576: true; the input reads as it did. -/
def writesLastUptoRow : OpenClaim := { program := "ytdkjeggichgimaa", sum := "58afa0e4d7ad78011bd79f3f3a2394fc1350213aebc424ff03e03b4a81f56840", func := "syncope/syncopelaw14.WritesLast", spec := "writesLast", apart := false, narrowed := true }
def WritesLastUptoSaid : Prop := writesLastUptoRow.holds Try.pinned (OpenSpec.upto writesLastSpec)

/-- 'syncopelaw14.WritesFilter', WHERE WHAT IT READS IS OF BULK AT MOST 1048576: true; the input reads as it did. -/
def writesFilterUptoRow : OpenClaim := { program := "ytdkjeggichgimaa", sum := "58afa0e4d7ad78011bd79f3f3a2394fc1350213aebc424ff03e03b4a81f56840", func := "syncope/syncopelaw14.WritesFilter", spec := "writesFilter", apart := false, narrowed := true }
def WritesFilterUptoSaid : Prop := writesFilterUptoRow.holds Try.pinned (OpenSpec.upto writesFilterSpec)

/-- 'syncopelaw14.WritesRoom', WHERE WHAT IT READS IS OF BULK AT MOST 1048576: true; the input reads as it did. -/
def writesRoomUptoRow : OpenClaim := { program := "ytdkjeggichgimaa", sum := "58afa0e4d7ad78011bd79f3f3a2394fc1350213aebc424ff03e03b4a81f56840", func := "syncope/syncopelaw14.WritesRoom", spec := "writesRoom", apart := false, narrowed := true }
def WritesRoomUptoSaid : Prop := writesRoomUptoRow.holds Try.pinned (OpenSpec.upto writesRoomSpec)

end Rows
end Go.Proofs.Ytdkjeggichgimaa
