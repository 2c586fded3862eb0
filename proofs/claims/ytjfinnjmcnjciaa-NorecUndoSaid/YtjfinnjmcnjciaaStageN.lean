/-
  Regions by stages: an operation whose value is known whatever the world (a nil check).
-/
import Derived.Test.YtjfinnjmcnjciaaStage
namespace Go.Proofs.Ytjfinnjmcnjciaa
open Go.RowKit
section
variable {P : Program} {ops : Array Oper} {md : Region.Mode} {D : (Nat → Bool) → World → Prop} {Q : Act → Prop} {k : Nat} {o : Oper} {rest : List Oper} {a : Act}
theorem wpS_value (v : Value) (hw : Region.wanted o (yielded ops a.tmps) = true) (hrun : ∀ w, (execOp a.eval o).run P w = .ok (.value v) w) (hD : ∀ L w, D L w → D (bump L k) w)
    (h : wpS P ops md D Q (k + 1) rest (a.put o.dst v)) : wpS P ops md D Q k (o :: rest) a :=
  ⟨v, .inl ⟨hw, fun L w _ _ hd => by rw [hrun]; exact ⟨rfl, hD L w hd⟩⟩, h⟩
end
end Go.Proofs.Ytjfinnjmcnjciaa
