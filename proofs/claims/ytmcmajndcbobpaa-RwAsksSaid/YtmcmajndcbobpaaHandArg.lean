/-
  A hand as an argument, opened; three words as an argument, opened.
-/
import Derived.Test.YtmcmajndcbobpaaHand
import Derived.Test.YtmcmajndcbobpaaArr
import Derived.WalkKit
import Derived.ProofKit
import Derived.OpenShut
import Derived.Deep.Slices
import Derived.Deep.Fields
import Derived.ChangeSame
namespace Go.Proofs.Ytmcmajndcbobpaa
open Go.ChangeShapes Go.WideShapes Go.Deep

theorem okWide_structH {P : Program} {w : World} {r : Reach} {b0 : Nat} {t : TypeId} {fs : Array Field} {v : Value} (ht : P.underlying t = some (.struct fs)) (h : Value.okWide P w r b0 t v) : ∃ cs, v = .agg cs ∧ cs.size = P.cellsOf t := by
  simp only [Value.okWide, ht] at h
  obtain ⟨cs, h1, h2, _⟩ := h
  exact ⟨cs, h1, h2⟩

set_option maxRecDepth 100000 in
theorem open_hand {H : Type} {enc : TypeId × Value → H} {W : World} {base : Nat} {sp : Nat → Bool} {held : Bool} {v : Value} {d : DataW H} {p : List MemPlace} {b0 : Nat} (hv : Value.okWide Try.prog W .any b0 24 v)
    (h : DataW.Trod enc Try.prog W base sp held 24 v d p) : ∃ g : HD, v = g.v := by
  obtain ⟨cs, rfl, hsz⟩ := okWide_structH Try.underlying24 hv
  obtain ⟨l⟩ := cs
  obtain ⟨fuel, hf⟩ := h
  have hce : Try.prog.cellsOf 24 = 5 := by kernel_rfl
  have hc1 : Try.prog.cellsOf 3 = 1 := by kernel_rfl
  have hc2 : Try.prog.cellsOf 2 = 1 := by kernel_rfl
  have hcb : Try.prog.cellsOf 4 = 1 := by kernel_rfl
  have hlen : l.length = 5 := by rw [← hce]; exact hsz
  obtain ⟨ys, n', _, _, _, hyl, hfl⟩ := DataW.trod_struct Try.underlying24 hf
  match l, hlen, hfl with
  | [e0, e1, e2, e3, e4], _, hfl =>
    match ys, hyl, hfl with
    | [y0, y1, y2, y3, y4], _, hfl =>
      have g0 := hfl 0 _ rfl
      have g1 := hfl 1 _ rfl
      have g2 := hfl 2 _ rfl
      have g3 := hfl 3 _ rfl
      have g4 := hfl 4 _ rfl
      change DataW.trod enc Try.prog W base sp held n' 3 ([e0, e1, e2, e3, e4].take (Try.prog.cellsOf 3)) = some y0 at g0
      change DataW.trod enc Try.prog W base sp held n' 3 ([e1, e2, e3, e4].take (Try.prog.cellsOf 3)) = some y1 at g1
      change DataW.trod enc Try.prog W base sp held n' 3 ([e2, e3, e4].take (Try.prog.cellsOf 3)) = some y2 at g2
      change DataW.trod enc Try.prog W base sp held n' 4 ([e3, e4].take (Try.prog.cellsOf 4)) = some y3 at g3
      change DataW.trod enc Try.prog W base sp held n' 2 ([e4].take (Try.prog.cellsOf 2)) = some y4 at g4
      rw [hc1] at g0 g1 g2
      rw [hcb] at g3
      rw [hc2] at g4
      obtain ⟨z0, q0, _, _⟩ := DataW.trod_int Try.underlying3 g0
      obtain ⟨z1, q1, _, _⟩ := DataW.trod_int Try.underlying3 g1
      obtain ⟨z2, q2, _, _⟩ := DataW.trod_int Try.underlying3 g2
      obtain ⟨z3, q3, _⟩ := DataW.trod_bool Try.underlying4 g3
      obtain ⟨z4, q4, _, _⟩ := DataW.trod_int Try.underlying2 g4
      simp only [List.take_succ_cons, List.take_zero, List.cons.injEq, and_true] at q0 q1 q2 q3 q4
      subst q0 q1 q2 q3 q4
      exact ⟨⟨z0, z1, z2, z3, z4⟩, rfl⟩

theorem open_arr3 {H : Type} {enc : TypeId × Value → H} {P : Program} {w : World} {base : Nat} {spare : Nat → Bool} {held : Bool} {r : Reach} {b0 : Nat} {t e : TypeId} {k : IntKind} {v : Value} {d : DataW H} {p : List MemPlace}
    (ht : P.underlying t = some (.array 3 e)) (he : P.underlying e = some (.int k)) (hC : P.cellsOf t = 3) (hE : P.cellsOf e = 1)
    (hv : Value.okWide P w r b0 t v) (h : DataW.Trod enc P w base spare held t v d p) : ∃ k0 k1 k2 : Int, v = .agg #[.int k k0, .int k k1, .int k k2] := by
  obtain ⟨zs, h1, rfl, _⟩ := open_arr_ints ht he hC hE hv h
  match zs, h1 with
  | [a, b, c], _ => exact ⟨a, b, c, by simp⟩

end Go.Proofs.Ytmcmajndcbobpaa
