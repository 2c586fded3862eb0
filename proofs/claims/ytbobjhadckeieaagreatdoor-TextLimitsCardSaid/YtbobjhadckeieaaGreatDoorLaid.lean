/-
  What lies at package level: the type that errors.As asks for.
-/
import Derived.Test.YtbobjhadckeieaaGreatDoorLoneAs
import Derived.LaidHandle
import Derived.LaidLaws
namespace Go.Proofs.YtbobjhadckeieaaGreatDoor
open Go.RowKit Go.ChangeShapes Go.WideShapes
set_option linter.unusedVariables false

theorem laid_et : Tryz.prog.globalNamed "errors.errorType" = some 11 := by kernel_rfl
theorem laid_rt : (Tryz.prog.cutTypes.find? (·.1 == "internal/reflectlite.rtype")).map (·.2) = some 124 := by kernel_rfl
theorem laid_oneRow : ((List.range Tryz.prog.types.size).filter fun t => Tryz.prog.rowNamed t [101, 114, 114, 111, 114]) = [47] := by kernel_rfl

/-- The plain rows, and the rows of types, where there are some. -/
theorem laid_parts {W : World} {l : List (String × DataW Unit)} {x : String × DataW Unit} (h : laidMetH Tryz.prog l W) (hm : x ∈ l.filter (fun x => x.2.handleName?.isSome)) :
    laidMet Tryz.prog (l.filter (fun x => x.2.handleName?.isNone)) W ∧ handlesMet Tryz.prog (l.filter (fun x => x.2.handleName?.isSome)) W := by
  unfold laidMetH at h
  generalize l.filter (fun x => x.2.handleName?.isSome) = hs at h hm ⊢
  cases hs with
  | nil => cases hm
  | cons a r => exact h

theorem errType_of {W : World} {l : List (String × DataW Unit)} (h : laidMetH Tryz.prog l W) (hm : ("errors.errorType", (.iface "internal/reflectlite.rtype" (.agg [.ptr (.lit (.string [101, 114, 114, 111, 114]))]) : DataW Unit)) ∈ l) : ErrType W := by
  obtain ⟨name, u, ty, e1, e2, e3, e4, e5⟩ := (laid_parts h (List.mem_filter.2 ⟨hm, rfl⟩)).2 _ (List.mem_filter.2 ⟨hm, rfl⟩)
  have en : name = [101, 114, 114, 111, 114] := (Option.some.inj e1).symm
  subst en
  obtain rfl := Option.some.inj (laid_rt.symm.trans e2)
  have hm : ty ∈ (List.range Tryz.prog.types.size).filter fun t => Tryz.prog.rowNamed t [101, 114, 114, 111, 114] := List.mem_filter.2 ⟨List.mem_range.2 e3, e4⟩
  rw [laid_oneRow] at hm
  obtain rfl := List.mem_singleton.1 hm
  have hh : typeHandle Tryz.prog 47 = .pointer (some ⟨20, 47, none⟩) := by kernel_rfl
  rw [hh] at e5
  simpa [ErrType] using World.var?_cell laid_et e5 0

end Go.Proofs.YtbobjhadckeieaaGreatDoor
