/-
  No cell of these rows narrows 'for every input' (looked for: loops, veiled, ifaces, maps, wideKeys, modest, calm, conditions, laid).
  DERIVED. THE GIVEN ROWS OF THIS SEAT. 4 by the template 'for every input the law returns true; each argument reads behind the call as it read before'; 0 by the template 'total and deterministic' (their statements: YtcnpflnfmndibaaTotals.lean).
  GIVEN WITH THE SEED: the statements are not yours to turn. If you find one false, say at which input.
  Laid BY PROGRAM, IN A SANDBOX (cutbox-rows.mjs): the forced cells as the released guide's own fill.sh prints them over the translation 9dbe5d83164faae1… (all of the seat's roots in one cut). By AI agents, Wed Nov 11 2026. No macro, syntax, notation, axiom, sorry.
-/
import Derived.Test.YtcnpflnfmndibaaChecked
import GoSem.Claim
import GoSem.ClaimJoined
import GoSem.ClaimMapViews
import Derived.JoinedTies
import Derived.KernelRfl
namespace Go.Proofs.Ytcnpflnfmndibaa
/- THE CELL 'sum', in the pinned program and in every row, IS THE sha256 OF THE DUMP (.gsa) THAT YtcnpflnfmndibaaProg.lean LOADS. Nothing in Lean hashes anything: it is a label: what it is worth is what the hold of that sum in a sandbox is worth. -/
noncomputable def Try.pinned : Pinned := { name := "ytcnpflnfmndibaa", sum := "9dbe5d83164faae1599395551f5344be7080814c0d828b18cd3e0aec6165ea25", checked := Try.checked }
namespace Rows
def none {H : Type} : Left H := { results := [], args := [] }

/-- 'syncopelaw12.StripeAsks': WHATEVER THE INPUT: true; the input reads as it did. -/
def stripeAsksSpec : ChangeSpec := { name := "stripeAsks", fn := fun _ => fun
  | [d1, d2, d3] => { results := [.lit (.bool true)], args := [d1, d2, d3] }
  | _ => none }
def stripeAsksRow : OpenClaim := { program := "ytcnpflnfmndibaa", sum := "9dbe5d83164faae1599395551f5344be7080814c0d828b18cd3e0aec6165ea25", func := "syncope/syncopelaw12.StripeAsks", spec := "stripeAsks", apart := false }
def StripeAsksSaid : Prop := stripeAsksRow.holds Try.pinned (OpenSpec.ofChange stripeAsksSpec)

/-- ITS FALSE NEIGHBOUR: 'it returns false'. Refute it at one input. -/
def stripeAsksWrong : ChangeSpec := { name := "stripeAsks", fn := fun _ => fun
  | [d1, d2, d3] => { results := [.lit (.bool false)], args := [d1, d2, d3] }
  | _ => none }
def StripeAsksWrongFalsely : Prop := stripeAsksRow.holds Try.pinned (OpenSpec.ofChange stripeAsksWrong)

/-- 'syncopelaw12.StripeParts': WHATEVER THE INPUT: true; the input reads as it did. -/
def stripePartsSpec : ChangeSpec := { name := "stripeParts", fn := fun _ => fun
  | [d1, d2, d3] => { results := [.lit (.bool true)], args := [d1, d2, d3] }
  | _ => none }
def stripePartsRow : OpenClaim := { program := "ytcnpflnfmndibaa", sum := "9dbe5d83164faae1599395551f5344be7080814c0d828b18cd3e0aec6165ea25", func := "syncope/syncopelaw12.StripeParts", spec := "stripeParts", apart := false }
def StripePartsSaid : Prop := stripePartsRow.holds Try.pinned (OpenSpec.ofChange stripePartsSpec)

/-- ITS FALSE NEIGHBOUR: 'it returns false'. Refute it at one input. -/
def stripePartsWrong : ChangeSpec := { name := "stripeParts", fn := fun _ => fun
  | [d1, d2, d3] => { results := [.lit (.bool false)], args := [d1, d2, d3] }
  | _ => none }
def StripePartsWrongFalsely : Prop := stripePartsRow.holds Try.pinned (OpenSpec.ofChange stripePartsWrong)

/-- 'syncopelaw12.StripeFresh': WHATEVER THE INPUT: true; the input reads as it did. -/
def stripeFreshSpec : ChangeSpec := { name := "stripeFresh", fn := fun _ => fun
  | [d1, d2, d3, d4] => { results := [.lit (.bool true)], args := [d1, d2, d3, d4] }
  | _ => none }
def stripeFreshRow : OpenClaim := { program := "ytcnpflnfmndibaa", sum := "9dbe5d83164faae1599395551f5344be7080814c0d828b18cd3e0aec6165ea25", func := "syncope/syncopelaw12.StripeFresh", spec := "stripeFresh", apart := false }
def StripeFreshSaid : Prop := stripeFreshRow.holds Try.pinned (OpenSpec.ofChange stripeFreshSpec)

/-- ITS FALSE NEIGHBOUR: 'it returns false'. Refute it at one input. -/
def stripeFreshWrong : ChangeSpec := { name := "stripeFresh", fn := fun _ => fun
  | [d1, d2, d3, d4] => { results := [.lit (.bool false)], args := [d1, d2, d3, d4] }
  | _ => none }
def StripeFreshWrongFalsely : Prop := stripeFreshRow.holds Try.pinned (OpenSpec.ofChange stripeFreshWrong)

/-- 'syncopelaw12.StripeRows': WHATEVER THE INPUT: true; the input reads as it did. -/
def stripeRowsSpec : ChangeSpec := { name := "stripeRows", fn := fun _ => fun
  | [d1, d2, d3] => { results := [.lit (.bool true)], args := [d1, d2, d3] }
  | _ => none }
def stripeRowsRow : OpenClaim := { program := "ytcnpflnfmndibaa", sum := "9dbe5d83164faae1599395551f5344be7080814c0d828b18cd3e0aec6165ea25", func := "syncope/syncopelaw12.StripeRows", spec := "stripeRows", apart := false }
def StripeRowsSaid : Prop := stripeRowsRow.holds Try.pinned (OpenSpec.ofChange stripeRowsSpec)

/-- ITS FALSE NEIGHBOUR: 'it returns false'. Refute it at one input. -/
def stripeRowsWrong : ChangeSpec := { name := "stripeRows", fn := fun _ => fun
  | [d1, d2, d3] => { results := [.lit (.bool false)], args := [d1, d2, d3] }
  | _ => none }
def StripeRowsWrongFalsely : Prop := stripeRowsRow.holds Try.pinned (OpenSpec.ofChange stripeRowsWrong)

/- THE SECOND FORM. 'bulk': how many values and letters a reading holds, each counted each time it is reached (what is shared counts as often as it is met; a slice's spare places count too). A statement '..UptoSaid' is the law's where the arguments, and the package variables that the reading takes, are together of bulk at most 1048576: NARROWER than '..Said'. Prove '..Said' where nothing that the law and all that it calls make is longer than what came in: it says more and counts as full. Else prove '..UptoSaid'. A law counts once. -/
mutual
def uptoBulk {H : Type} : DataW H → Nat
  | .lit (.string bytes) => bytes.length + 1
  | .lit _ => 1
  | .nil => 1
  | .ptr d => uptoBulk d + 1
  | .slice elems spare => uptoBulkAll elems + uptoBulkAll spare + 1
  | .agg parts => uptoBulkAll parts + 1
  | .iface _ d => uptoBulk d + 1
  | .map entries => uptoBulkEntries entries + 1
  | .held _ => 1
def uptoBulkAll {H : Type} : List (DataW H) → Nat
  | [] => 0
  | d :: r => uptoBulk d + uptoBulkAll r
def uptoBulkEntries {H : Type} : List (Lit × DataW H) → Nat
  | [] => 0
  | x :: r => uptoBulkEntry x + uptoBulkEntries r
def uptoBulkEntry {H : Type} : Lit × DataW H → Nat
  | (.string bytes, d) => bytes.length + uptoBulk d + 1
  | (_, d) => uptoBulk d + 1
 end
def uptoSmall : (H : Type) → List (DataW H) → Bool := fun _ ds => decide (uptoBulkAll ds ≤ 1048576)
def OpenSpec.upto (s : _root_.Go.ChangeSpec) : _root_.Go.OpenSpec := { _root_.Go.OpenSpec.ofChange s with cond := some uptoSmall }

/-- 'syncopelaw12.StripeAsks', WHERE WHAT IT READS IS OF BULK AT MOST 1048576: true; the input reads as it did. -/
def stripeAsksUptoRow : OpenClaim := { program := "ytcnpflnfmndibaa", sum := "9dbe5d83164faae1599395551f5344be7080814c0d828b18cd3e0aec6165ea25", func := "syncope/syncopelaw12.StripeAsks", spec := "stripeAsks", apart := false, narrowed := true }
def StripeAsksUptoSaid : Prop := stripeAsksUptoRow.holds Try.pinned (OpenSpec.upto stripeAsksSpec)

/-- 'syncopelaw12.StripeParts', WHERE WHAT IT READS IS OF BULK AT MOST 1048576: true; the input reads as it did. -/
def stripePartsUptoRow : OpenClaim := { program := "ytcnpflnfmndibaa", sum := "9dbe5d83164faae1599395551f5344be7080814c0d828b18cd3e0aec6165ea25", func := "syncope/syncopelaw12.StripeParts", spec := "stripeParts", apart := false, narrowed := true }
def StripePartsUptoSaid : Prop := stripePartsUptoRow.holds Try.pinned (OpenSpec.upto stripePartsSpec)

/-- 'syncopelaw12.StripeFresh', WHERE WHAT IT READS IS OF BULK AT MOST 1048576: true; the input reads as it did. -/
def stripeFreshUptoRow : OpenClaim := { program := "ytcnpflnfmndibaa", sum := "9dbe5d83164faae1599395551f5344be7080814c0d828b18cd3e0aec6165ea25", func := "syncope/syncopelaw12.StripeFresh", spec := "stripeFresh", apart := false, narrowed := true }
def StripeFreshUptoSaid : Prop := stripeFreshUptoRow.holds Try.pinned (OpenSpec.upto stripeFreshSpec)

/-- 'syncopelaw12.StripeRows', WHERE WHAT IT READS IS OF BULK AT MOST 1048576: true; the input reads as it did. -/
def stripeRowsUptoRow : OpenClaim := { program := "ytcnpflnfmndibaa", sum := "9dbe5d83164faae1599395551f5344be7080814c0d828b18cd3e0aec6165ea25", func := "syncope/syncopelaw12.StripeRows", spec := "stripeRows", apart := false, narrowed := true }
def StripeRowsUptoSaid : Prop := stripeRowsUptoRow.holds Try.pinned (OpenSpec.upto stripeRowsSpec)

end Rows
end Go.Proofs.Ytcnpflnfmndibaa
