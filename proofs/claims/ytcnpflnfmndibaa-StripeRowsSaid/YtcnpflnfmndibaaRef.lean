/-
  The document's own memory (syncoperef2): New, and Same.
-/
import Derived.Test.YtcnpflnfmndibaaTold
import Derived.Deep.QuietTactic
import Derived.BigQuiet
import Derived.Deep.RegionWith
namespace Go.Proofs.Ytcnpflnfmndibaa
open Go.RowKit

theorem IsMem.drewN {T E : TypeId} {w : World} {B b : Nat} {vw : Value} {s : MS} (h : IsMem T E w B b vw s) (n : Nat) : IsMem T E (w.drewN n) B b vw s :=
  h.kept ((Wrote.refl (fun _ => False) w).drewN n) fun _ _ h => h

/-- Both hold the same words. -/
def SameAt (W : World) (wr : World) : Prop := ∃ n, wr = W.drewN n

end Go.Proofs.Ytcnpflnfmndibaa
