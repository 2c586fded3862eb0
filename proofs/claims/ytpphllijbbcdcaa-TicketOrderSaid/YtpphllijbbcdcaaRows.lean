/-
  No cell of these rows narrows 'for every input' (looked for: loops, veiled, ifaces, maps, wideKeys, modest, calm, conditions, laid).
  DERIVED. THE GIVEN ROWS OF THIS SEAT. 4 by the template 'for every input the law returns true; each argument reads behind the call as it read before'; 0 by the template 'total and deterministic' (their statements: YtpphllijbbcdcaaTotals.lean).
  GIVEN WITH THE SEED: the statements are not yours to turn. If you find one false, say at which input.
  Laid BY PROGRAM, IN A SANDBOX (cutbox-rows.mjs): the forced cells as the released guide's own fill.sh prints them over the translation 8630f3b8a3057623… (all of the seat's roots in one cut). By AI agents, Wed Nov 11 2026. No macro, syntax, notation, axiom, sorry.
-/
import Derived.Test.YtpphllijbbcdcaaChecked
import GoSem.Claim
import GoSem.ClaimJoined
import GoSem.ClaimMapViews
import Derived.JoinedTies
import Derived.KernelRfl
namespace Go.Proofs.Ytpphllijbbcdcaa
/- THE CELL 'sum', in the pinned program and in every row, IS THE sha256 OF THE DUMP (.gsa) THAT YtpphllijbbcdcaaProg.lean LOADS. Nothing in Lean hashes anything: it is a label: what it is worth is what the hold of that sum in a sandbox is worth. -/
noncomputable def Try.pinned : Pinned := { name := "ytpphllijbbcdcaa", sum := "8630f3b8a305762364ea37e5c6e1f9a9104461fde1c0f4cfe3c807de83daa54a", checked := Try.checked }
namespace Rows
def none {H : Type} : Left H := { results := [], args := [] }

/-- 'syncopelaw8.TicketAsks': WHATEVER THE INPUT: true; the input reads as it did. -/
def ticketAsksSpec : ChangeSpec := { name := "ticketAsks", fn := fun _ => fun
  | [d1, d2, d3, d4] => { results := [.lit (.bool true)], args := [d1, d2, d3, d4] }
  | _ => none }
def ticketAsksRow : OpenClaim := { program := "ytpphllijbbcdcaa", sum := "8630f3b8a305762364ea37e5c6e1f9a9104461fde1c0f4cfe3c807de83daa54a", func := "syncope/syncopelaw8.TicketAsks", spec := "ticketAsks", apart := false }
def TicketAsksSaid : Prop := ticketAsksRow.holds Try.pinned (OpenSpec.ofChange ticketAsksSpec)

/-- ITS FALSE NEIGHBOUR: 'it returns false'. Refute it at one input. -/
def ticketAsksWrong : ChangeSpec := { name := "ticketAsks", fn := fun _ => fun
  | [d1, d2, d3, d4] => { results := [.lit (.bool false)], args := [d1, d2, d3, d4] }
  | _ => none }
def TicketAsksWrongFalsely : Prop := ticketAsksRow.holds Try.pinned (OpenSpec.ofChange ticketAsksWrong)

/-- 'syncopelaw8.TicketRuns': WHATEVER THE INPUT: true; the input reads as it did. -/
def ticketRunsSpec : ChangeSpec := { name := "ticketRuns", fn := fun _ => fun
  | [d] => { results := [.lit (.bool true)], args := [d] }
  | _ => none }
def ticketRunsRow : OpenClaim := { program := "ytpphllijbbcdcaa", sum := "8630f3b8a305762364ea37e5c6e1f9a9104461fde1c0f4cfe3c807de83daa54a", func := "syncope/syncopelaw8.TicketRuns", spec := "ticketRuns", apart := false }
def TicketRunsSaid : Prop := ticketRunsRow.holds Try.pinned (OpenSpec.ofChange ticketRunsSpec)

/-- ITS FALSE NEIGHBOUR: 'it returns false'. Refute it at one input. -/
def ticketRunsWrong : ChangeSpec := { name := "ticketRuns", fn := fun _ => fun
  | [d] => { results := [.lit (.bool false)], args := [d] }
  | _ => none }
def TicketRunsWrongFalsely : Prop := ticketRunsRow.holds Try.pinned (OpenSpec.ofChange ticketRunsWrong)

/-- 'syncopelaw8.TicketOrder': WHATEVER THE INPUT: true; the input reads as it did. -/
def ticketOrderSpec : ChangeSpec := { name := "ticketOrder", fn := fun _ => fun
  | [d1, d2] => { results := [.lit (.bool true)], args := [d1, d2] }
  | _ => none }
def ticketOrderRow : OpenClaim := { program := "ytpphllijbbcdcaa", sum := "8630f3b8a305762364ea37e5c6e1f9a9104461fde1c0f4cfe3c807de83daa54a", func := "syncope/syncopelaw8.TicketOrder", spec := "ticketOrder", apart := false }
def TicketOrderSaid : Prop := ticketOrderRow.holds Try.pinned (OpenSpec.ofChange ticketOrderSpec)

/-- ITS FALSE NEIGHBOUR: 'it returns false'. Refute it at one input. -/
def ticketOrderWrong : ChangeSpec := { name := "ticketOrder", fn := fun _ => fun
  | [d1, d2] => { results := [.lit (.bool false)], args := [d1, d2] }
  | _ => none }
def TicketOrderWrongFalsely : Prop := ticketOrderRow.holds Try.pinned (OpenSpec.ofChange ticketOrderWrong)

/-- 'syncopelaw8.TicketApart': WHATEVER THE INPUT: true; the input reads as it did. -/
def ticketApartSpec : ChangeSpec := { name := "ticketApart", fn := fun _ => fun
  | [d] => { results := [.lit (.bool true)], args := [d] }
  | _ => none }
def ticketApartRow : OpenClaim := { program := "ytpphllijbbcdcaa", sum := "8630f3b8a305762364ea37e5c6e1f9a9104461fde1c0f4cfe3c807de83daa54a", func := "syncope/syncopelaw8.TicketApart", spec := "ticketApart", apart := false }
def TicketApartSaid : Prop := ticketApartRow.holds Try.pinned (OpenSpec.ofChange ticketApartSpec)

/-- ITS FALSE NEIGHBOUR: 'it returns false'. Refute it at one input. -/
def ticketApartWrong : ChangeSpec := { name := "ticketApart", fn := fun _ => fun
  | [d] => { results := [.lit (.bool false)], args := [d] }
  | _ => none }
def TicketApartWrongFalsely : Prop := ticketApartRow.holds Try.pinned (OpenSpec.ofChange ticketApartWrong)

/- THE SECOND FORM. 'bulk': how many values and letters a reading holds, each counted each time it is reached (what is shared counts as often as it is met; a slice's spare places count too). A statement '..UptoSaid' is the law's where the arguments, and the package variables that the reading takes, are together of bulk at most 1048576: NARROWER than '..Said'. Prove '..Said' where nothing that the law and all that it calls make is longer than what came in: it says more and counts as full. Else prove '..UptoSaid'. A law counts once. -/
mutual
def uptoBulk {H : Type} : DataW H → Nat
  | .lit (.string bytes) => bytes.length + 1
  | .lit _ => 1
  | .nil => 1
  | .ptr d => uptoBulk d + 1
  | .slice elems spare => uptoBulkAll elems + uptoBulkAll spare + 1
  | .agg parts => uptoBulkAll parts + 1
  | .iface _ d => uptoBulk d + 1
  | .map entries => uptoBulkEntries entries + 1
  | .held _ => 1
def uptoBulkAll {H : Type} : List (DataW H) → Nat
  | [] => 0
  | d :: r => uptoBulk d + uptoBulkAll r
def uptoBulkEntries {H : Type} : List (Lit × DataW H) → Nat
  | [] => 0
  | x :: r => uptoBulkEntry x + uptoBulkEntries r
def uptoBulkEntry {H : Type} : Lit × DataW H → Nat
  | (.string bytes, d) => bytes.length + uptoBulk d + 1
  | (_, d) => uptoBulk d + 1
 end
def uptoSmall : (H : Type) → List (DataW H) → Bool := fun _ ds => decide (uptoBulkAll ds ≤ 1048576)
def OpenSpec.upto (s : _root_.Go.ChangeSpec) : _root_.Go.OpenSpec := { _root_.Go.OpenSpec.ofChange s with cond := some uptoSmall }

/-- 'syncopelaw8.TicketAsks', WHERE WHAT IT READS IS OF BULK AT MOST 1048576: true; the input reads as it did. -/
def ticketAsksUptoRow : OpenClaim := { program := "ytpphllijbbcdcaa", sum := "8630f3b8a305762364ea37e5c6e1f9a9104461fde1c0f4cfe3c807de83daa54a", func := "syncope/syncopelaw8.TicketAsks", spec := "ticketAsks", apart := false, narrowed := true }
def TicketAsksUptoSaid : Prop := ticketAsksUptoRow.holds Try.pinned (OpenSpec.upto ticketAsksSpec)

/-- 'syncopelaw8.TicketRuns', WHERE WHAT IT READS IS OF BULK AT MOST 1048576: true; the input reads as it did. -/
def ticketRunsUptoRow : OpenClaim := { program := "ytpphllijbbcdcaa", sum := "8630f3b8a305762364ea37e5c6e1f9a9104461fde1c0f4cfe3c807de83daa54a", func := "syncope/syncopelaw8.TicketRuns", spec := "ticketRuns", apart := false, narrowed := true }
def TicketRunsUptoSaid : Prop := ticketRunsUptoRow.holds Try.pinned (OpenSpec.upto ticketRunsSpec)

/-- 'syncopelaw8.TicketOrder', WHERE WHAT IT READS IS OF BULK AT MOST 1048576: true; the input reads as it did. -/
def ticketOrderUptoRow : OpenClaim := { program := "ytpphllijbbcdcaa", sum := "8630f3b8a305762364ea37e5c6e1f9a9104461fde1c0f4cfe3c807de83daa54a", func := "syncope/syncopelaw8.TicketOrder", spec := "ticketOrder", apart := false, narrowed := true }
def TicketOrderUptoSaid : Prop := ticketOrderUptoRow.holds Try.pinned (OpenSpec.upto ticketOrderSpec)

/-- 'syncopelaw8.TicketApart', WHERE WHAT IT READS IS OF BULK AT MOST 1048576: true; the input reads as it did. -/
def ticketApartUptoRow : OpenClaim := { program := "ytpphllijbbcdcaa", sum := "8630f3b8a305762364ea37e5c6e1f9a9104461fde1c0f4cfe3c807de83daa54a", func := "syncope/syncopelaw8.TicketApart", spec := "ticketApart", apart := false, narrowed := true }
def TicketApartUptoSaid : Prop := ticketApartUptoRow.holds Try.pinned (OpenSpec.upto ticketApartSpec)

end Rows
end Go.Proofs.Ytpphllijbbcdcaa
