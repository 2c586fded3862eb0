/-
  THE CONTRACTS OF package mem, each call on a memory that lies as 'IsMem' says: what it answers, what the memory holds behind it, and that outside its own blocks nothing has turned.
-/
import Derived.Test.YtcnpflnfmndibaaBase
namespace Go.Proofs.Ytcnpflnfmndibaa
open Go.RowKit

/-! ### Load -/
/-! ### Store -/
/-! ### Add -/
/-! ### Swap -/
/-! ### what makes no step -/
end Go.Proofs.Ytcnpflnfmndibaa
