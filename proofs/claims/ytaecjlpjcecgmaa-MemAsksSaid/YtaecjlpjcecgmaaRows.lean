/-
  No cell of these rows narrows 'for every input' (looked for: loops, veiled, ifaces, maps, wideKeys, modest, calm, conditions, laid).
  DERIVED. THE GIVEN ROWS OF THIS SEAT. 6 by the template 'for every input the law returns true; each argument reads behind the call as it read before'; 0 by the template 'total and deterministic' (their statements: YtaecjlpjcecgmaaTotals.lean).
  GIVEN WITH THE SEED: the statements are not yours to turn. If you find one false, say at which input.
  Laid BY PROGRAM, IN A SANDBOX (cutbox-rows.mjs): the forced cells as the released guide's own fill.sh prints them over the translation 576aba6785847203… (all of the seat's roots in one cut). By AI agents, Wed Nov 11 2026. No macro, syntax, notation, axiom, sorry.
-/
import Derived.Test.YtaecjlpjcecgmaaChecked
import GoSem.Claim
import GoSem.ClaimJoined
import GoSem.ClaimMapViews
import Derived.JoinedTies
import Derived.KernelRfl
namespace Go.Proofs.Ytaecjlpjcecgmaa
/- THE CELL 'sum', in the pinned program and in every row, IS THE sha256 OF THE DUMP (.gsa) THAT YtaecjlpjcecgmaaProg.lean LOADS. Nothing in Lean hashes anything: it is a label: what it is worth is what the hold of that sum in a sandbox is worth. -/
noncomputable def Try.pinned : Pinned := { name := "ytaecjlpjcecgmaa", sum := "576aba678584720301b189235b5afbd2733e16c3c981ff1b17094934e481bd27", checked := Try.checked }
namespace Rows
def none {H : Type} : Left H := { results := [], args := [] }

/-- 'syncopelaw2.MemAsks': WHATEVER THE INPUT: true; the input reads as it did. -/
def memAsksSpec : ChangeSpec := { name := "memAsks", fn := fun _ => fun
  | [d1, d2] => { results := [.lit (.bool true)], args := [d1, d2] }
  | _ => none }
def memAsksRow : OpenClaim := { program := "ytaecjlpjcecgmaa", sum := "576aba678584720301b189235b5afbd2733e16c3c981ff1b17094934e481bd27", func := "syncope/syncopelaw2.MemAsks", spec := "memAsks", apart := false }
def MemAsksSaid : Prop := memAsksRow.holds Try.pinned (OpenSpec.ofChange memAsksSpec)

/-- ITS FALSE NEIGHBOUR: 'it returns false'. Refute it at one input. -/
def memAsksWrong : ChangeSpec := { name := "memAsks", fn := fun _ => fun
  | [d1, d2] => { results := [.lit (.bool false)], args := [d1, d2] }
  | _ => none }
def MemAsksWrongFalsely : Prop := memAsksRow.holds Try.pinned (OpenSpec.ofChange memAsksWrong)

/-- 'syncopelaw2.MemSwaps': WHATEVER THE INPUT: true; the input reads as it did. -/
def memSwapsSpec : ChangeSpec := { name := "memSwaps", fn := fun _ => fun
  | [d1, d2] => { results := [.lit (.bool true)], args := [d1, d2] }
  | _ => none }
def memSwapsRow : OpenClaim := { program := "ytaecjlpjcecgmaa", sum := "576aba678584720301b189235b5afbd2733e16c3c981ff1b17094934e481bd27", func := "syncope/syncopelaw2.MemSwaps", spec := "memSwaps", apart := false }
def MemSwapsSaid : Prop := memSwapsRow.holds Try.pinned (OpenSpec.ofChange memSwapsSpec)

/-- ITS FALSE NEIGHBOUR: 'it returns false'. Refute it at one input. -/
def memSwapsWrong : ChangeSpec := { name := "memSwaps", fn := fun _ => fun
  | [d1, d2] => { results := [.lit (.bool false)], args := [d1, d2] }
  | _ => none }
def MemSwapsWrongFalsely : Prop := memSwapsRow.holds Try.pinned (OpenSpec.ofChange memSwapsWrong)

/-- 'syncopelaw2.MemAdds': WHATEVER THE INPUT: true; the input reads as it did. -/
def memAddsSpec : ChangeSpec := { name := "memAdds", fn := fun _ => fun
  | [d1, d2, d3] => { results := [.lit (.bool true)], args := [d1, d2, d3] }
  | _ => none }
def memAddsRow : OpenClaim := { program := "ytaecjlpjcecgmaa", sum := "576aba678584720301b189235b5afbd2733e16c3c981ff1b17094934e481bd27", func := "syncope/syncopelaw2.MemAdds", spec := "memAdds", apart := false }
def MemAddsSaid : Prop := memAddsRow.holds Try.pinned (OpenSpec.ofChange memAddsSpec)

/-- ITS FALSE NEIGHBOUR: 'it returns false'. Refute it at one input. -/
def memAddsWrong : ChangeSpec := { name := "memAdds", fn := fun _ => fun
  | [d1, d2, d3] => { results := [.lit (.bool false)], args := [d1, d2, d3] }
  | _ => none }
def MemAddsWrongFalsely : Prop := memAddsRow.holds Try.pinned (OpenSpec.ofChange memAddsWrong)

/-- 'syncopelaw2.MemRange': WHATEVER THE INPUT: true; the input reads as it did. -/
def memRangeSpec : ChangeSpec := { name := "memRange", fn := fun _ => fun
  | [d1, d2, d3, d4] => { results := [.lit (.bool true)], args := [d1, d2, d3, d4] }
  | _ => none }
def memRangeRow : OpenClaim := { program := "ytaecjlpjcecgmaa", sum := "576aba678584720301b189235b5afbd2733e16c3c981ff1b17094934e481bd27", func := "syncope/syncopelaw2.MemRange", spec := "memRange", apart := false }
def MemRangeSaid : Prop := memRangeRow.holds Try.pinned (OpenSpec.ofChange memRangeSpec)

/-- ITS FALSE NEIGHBOUR: 'it returns false'. Refute it at one input. -/
def memRangeWrong : ChangeSpec := { name := "memRange", fn := fun _ => fun
  | [d1, d2, d3, d4] => { results := [.lit (.bool false)], args := [d1, d2, d3, d4] }
  | _ => none }
def MemRangeWrongFalsely : Prop := memRangeRow.holds Try.pinned (OpenSpec.ofChange memRangeWrong)

/-- 'syncopelaw2.MemOwn': WHATEVER THE INPUT: true; the input reads as it did. -/
def memOwnSpec : ChangeSpec := { name := "memOwn", fn := fun _ => fun
  | [d1, d2, d3] => { results := [.lit (.bool true)], args := [d1, d2, d3] }
  | _ => none }
def memOwnRow : OpenClaim := { program := "ytaecjlpjcecgmaa", sum := "576aba678584720301b189235b5afbd2733e16c3c981ff1b17094934e481bd27", func := "syncope/syncopelaw2.MemOwn", spec := "memOwn", apart := false }
def MemOwnSaid : Prop := memOwnRow.holds Try.pinned (OpenSpec.ofChange memOwnSpec)

/-- ITS FALSE NEIGHBOUR: 'it returns false'. Refute it at one input. -/
def memOwnWrong : ChangeSpec := { name := "memOwn", fn := fun _ => fun
  | [d1, d2, d3] => { results := [.lit (.bool false)], args := [d1, d2, d3] }
  | _ => none }
def MemOwnWrongFalsely : Prop := memOwnRow.holds Try.pinned (OpenSpec.ofChange memOwnWrong)

/-- 'syncopelaw2.MemLimit': WHATEVER THE INPUT: true; the input reads as it did. -/
def memLimitSpec : ChangeSpec := { name := "memLimit", fn := fun _ => fun
  | [d] => { results := [.lit (.bool true)], args := [d] }
  | _ => none }
def memLimitRow : OpenClaim := { program := "ytaecjlpjcecgmaa", sum := "576aba678584720301b189235b5afbd2733e16c3c981ff1b17094934e481bd27", func := "syncope/syncopelaw2.MemLimit", spec := "memLimit", apart := false }
def MemLimitSaid : Prop := memLimitRow.holds Try.pinned (OpenSpec.ofChange memLimitSpec)

/-- ITS FALSE NEIGHBOUR: 'it returns false'. Refute it at one input. -/
def memLimitWrong : ChangeSpec := { name := "memLimit", fn := fun _ => fun
  | [d] => { results := [.lit (.bool false)], args := [d] }
  | _ => none }
def MemLimitWrongFalsely : Prop := memLimitRow.holds Try.pinned (OpenSpec.ofChange memLimitWrong)

/- THE SECOND FORM. 'bulk': how many values and letters a reading holds, each counted each time it is reached (what is shared counts as often as it is met; a slice's spare places count too). A statement '..UptoSaid' is the law's where the arguments, and the package variables that the reading takes, are together of bulk at most 1048576: NARROWER than '..Said'. Prove '..Said' where nothing that the law and all that it calls make is longer than what came in: it says more and counts as full. Else prove '..UptoSaid'. A law counts once. -/
mutual
def uptoBulk {H : Type} : DataW H → Nat
  | .lit (.string bytes) => bytes.length + 1
  | .lit _ => 1
  | .nil => 1
  | .ptr d => uptoBulk d + 1
  | .slice elems spare => uptoBulkAll elems + uptoBulkAll spare + 1
  | .agg parts => uptoBulkAll parts + 1
  | .iface _ d => uptoBulk d + 1
  | .map entries => uptoBulkEntries entries + 1
  | .held _ => 1
def uptoBulkAll {H : Type} : List (DataW H) → Nat
  | [] => 0
  | d :: r => uptoBulk d + uptoBulkAll r
def uptoBulkEntries {H : Type} : List (Lit × DataW H) → Nat
  | [] => 0
  | x :: r => uptoBulkEntry x + uptoBulkEntries r
def uptoBulkEntry {H : Type} : Lit × DataW H → Nat
  | (.string bytes, d) => bytes.length + uptoBulk d + 1
  | (_, d) => uptoBulk d + 1
 end
def uptoSmall : (H : Type) → List (DataW H) → Bool := fun _ ds => decide (uptoBulkAll ds ≤ 1048576)
def OpenSpec.upto (s : _root_.Go.ChangeSpec) : _root_.Go.OpenSpec := { _root_.Go.OpenSpec.ofChange s with cond := some uptoSmall }

/-- 'syncopelaw2.MemAsks', WHERE WHAT IT READS IS OF BULK AT MOST 1048576: true; the input reads as it did. -/
def memAsksUptoRow : OpenClaim := { program := "ytaecjlpjcecgmaa", sum := "576aba678584720301b189235b5afbd2733e16c3c981ff1b17094934e481bd27", func := "syncope/syncopelaw2.MemAsks", spec := "memAsks", apart := false, narrowed := true }
def MemAsksUptoSaid : Prop := memAsksUptoRow.holds Try.pinned (OpenSpec.upto memAsksSpec)

/-- 'syncopelaw2.MemSwaps', WHERE WHAT IT READS IS OF BULK AT MOST 1048576: true; the input reads as it did. -/
def memSwapsUptoRow : OpenClaim := { program := "ytaecjlpjcecgmaa", sum := "576aba678584720301b189235b5afbd2733e16c3c981ff1b17094934e481bd27", func := "syncope/syncopelaw2.MemSwaps", spec := "memSwaps", apart := false, narrowed := true }
def MemSwapsUptoSaid : Prop := memSwapsUptoRow.holds Try.pinned (OpenSpec.upto memSwapsSpec)

/-- 'syncopelaw2.MemAdds', WHERE WHAT IT READS IS OF BULK AT MOST 1048576: true; the input reads as it did. -/
def memAddsUptoRow : OpenClaim := { program := "ytaecjlpjcecgmaa", sum := "576aba678584720301b189235b5afbd2733e16c3c981ff1b17094934e481bd27", func := "syncope/syncopelaw2.MemAdds", spec := "memAdds", apart := false, narrowed := true }
def MemAddsUptoSaid : Prop := memAddsUptoRow.holds Try.pinned (OpenSpec.upto memAddsSpec)

/-- 'syncopelaw2.MemRange', WHERE WHAT IT READS IS OF BULK AT MOST 1048576: true; the input reads as it did. -/
def memRangeUptoRow : OpenClaim := { program := "ytaecjlpjcecgmaa", sum := "576aba678584720301b189235b5afbd2733e16c3c981ff1b17094934e481bd27", func := "syncope/syncopelaw2.MemRange", spec := "memRange", apart := false, narrowed := true }
def MemRangeUptoSaid : Prop := memRangeUptoRow.holds Try.pinned (OpenSpec.upto memRangeSpec)

/-- 'syncopelaw2.MemOwn', WHERE WHAT IT READS IS OF BULK AT MOST 1048576: true; the input reads as it did. -/
def memOwnUptoRow : OpenClaim := { program := "ytaecjlpjcecgmaa", sum := "576aba678584720301b189235b5afbd2733e16c3c981ff1b17094934e481bd27", func := "syncope/syncopelaw2.MemOwn", spec := "memOwn", apart := false, narrowed := true }
def MemOwnUptoSaid : Prop := memOwnUptoRow.holds Try.pinned (OpenSpec.upto memOwnSpec)

/-- 'syncopelaw2.MemLimit', WHERE WHAT IT READS IS OF BULK AT MOST 1048576: true; the input reads as it did. -/
def memLimitUptoRow : OpenClaim := { program := "ytaecjlpjcecgmaa", sum := "576aba678584720301b189235b5afbd2733e16c3c981ff1b17094934e481bd27", func := "syncope/syncopelaw2.MemLimit", spec := "memLimit", apart := false, narrowed := true }
def MemLimitUptoSaid : Prop := memLimitUptoRow.holds Try.pinned (OpenSpec.upto memLimitSpec)

end Rows
end Go.Proofs.Ytaecjlpjcecgmaa
