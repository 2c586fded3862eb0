/-
  THE CONTRACTS of package reads: those that make, write, hand words or lists out.
-/
import Derived.Test.YtdkjeggichgimaaRdC
import Derived.Test.YtdkjeggichgimaaNlw
namespace Go.Proofs.Ytdkjeggichgimaa
open Go.RowKit
attribute [local go_sem] Later.cell Later.frozen

/-- A room that is asked for, as it is then. -/
def capF (r : Int) : Nat := (min (max r 0) 32).toNat
theorem capF_le (r : Int) : capF r ≤ 32 := by unfold capF; omega
theorem capF_eq (r : Int) : ((capF r : Nat) : Int) = min (max r 0) 32 := by unfold capF; omega

theorem infoW : (Try.prog.info? 42).map (·.size) = some 2 := by kernel_rfl
def keysL (ws : List Wd) : List Int := ws.map fun p => p.1
/-- What Keys hands out: a list of the call's own. -/
def KeysRet (w : World) (l : List Int) (e : Ending) (w' : World) : Prop := ∃ v, e = .returned v ∧ NL w' w.heap.size v l ∧ Below w.heap.size w w'

end Go.Proofs.Ytdkjeggichgimaa
