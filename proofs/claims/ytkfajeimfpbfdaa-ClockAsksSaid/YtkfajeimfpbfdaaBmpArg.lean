/-
  A bump as an argument, opened.
-/
import Derived.Test.YtkfajeimfpbfdaaBmp
import Derived.Test.YtkfajeimfpbfdaaArr
import Derived.WalkKit
import Derived.ProofKit
import Derived.OpenShut
import Derived.Deep.Slices
import Derived.Deep.Fields
import Derived.ChangeSame
namespace Go.Proofs.Ytkfajeimfpbfdaa
open Go.ChangeShapes Go.WideShapes Go.Deep

theorem okWide_structB {P : Program} {w : World} {r : Reach} {b0 : Nat} {t : TypeId} {fs : Array Field} {v : Value} (ht : P.underlying t = some (.struct fs)) (h : Value.okWide P w r b0 t v) : ∃ cs, v = .agg cs ∧ cs.size = P.cellsOf t := by
  simp only [Value.okWide, ht] at h
  obtain ⟨cs, h1, h2, _⟩ := h
  exact ⟨cs, h1, h2⟩

set_option maxRecDepth 100000 in
theorem open_bump {H : Type} {enc : TypeId × Value → H} {W : World} {base : Nat} {sp : Nat → Bool} {held : Bool} {v : Value} {d : DataW H} {p : List MemPlace} {b0 : Nat} (hv : Value.okWide Try.prog W .any b0 23 v)
    (h : DataW.Trod enc Try.prog W base sp held 23 v d p) : ∃ g : BD, v = g.v := by
  obtain ⟨cs, rfl, hsz⟩ := okWide_structB Try.underlying23 hv
  obtain ⟨l⟩ := cs
  obtain ⟨fuel, hf⟩ := h
  have hce : Try.prog.cellsOf 23 = 4 := by kernel_rfl
  have hc1 : Try.prog.cellsOf 3 = 1 := by kernel_rfl
  have hc2 : Try.prog.cellsOf 2 = 1 := by kernel_rfl
  have hlen : l.length = 4 := by rw [← hce]; exact hsz
  obtain ⟨ys, n', _, _, _, hyl, hfl⟩ := DataW.trod_struct Try.underlying23 hf
  match l, hlen, hfl with
  | [e0, e1, e2, e3], _, hfl =>
    match ys, hyl, hfl with
    | [y0, y1, y2, y3], _, hfl =>
      have g0 := hfl 0 _ rfl
      have g1 := hfl 1 _ rfl
      have g2 := hfl 2 _ rfl
      have g3 := hfl 3 _ rfl
      change DataW.trod enc Try.prog W base sp held n' 3 ([e0, e1, e2, e3].take (Try.prog.cellsOf 3)) = some y0 at g0
      change DataW.trod enc Try.prog W base sp held n' 3 ([e1, e2, e3].take (Try.prog.cellsOf 3)) = some y1 at g1
      change DataW.trod enc Try.prog W base sp held n' 2 ([e2, e3].take (Try.prog.cellsOf 2)) = some y2 at g2
      change DataW.trod enc Try.prog W base sp held n' 2 ([e3].take (Try.prog.cellsOf 2)) = some y3 at g3
      rw [hc1] at g0 g1
      rw [hc2] at g2 g3
      obtain ⟨z0, q0, _, _⟩ := DataW.trod_int Try.underlying3 g0
      obtain ⟨z1, q1, _, _⟩ := DataW.trod_int Try.underlying3 g1
      obtain ⟨z2, q2, _, _⟩ := DataW.trod_int Try.underlying2 g2
      obtain ⟨z3, q3, _, _⟩ := DataW.trod_int Try.underlying2 g3
      simp only [List.take_succ_cons, List.take_zero, List.cons.injEq, and_true] at q0 q1 q2 q3
      subst q0 q1 q2 q3
      exact ⟨⟨z0, z1, z2, z3⟩, rfl⟩

end Go.Proofs.Ytkfajeimfpbfdaa
