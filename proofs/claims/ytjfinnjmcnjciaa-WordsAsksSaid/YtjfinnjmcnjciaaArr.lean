/-
  An argument that is an array of integers, opened.
-/
import Derived.Test.YtjfinnjmcnjciaaRows
import Derived.WalkKit
import Derived.ProofKit
import Derived.OpenShut
import Derived.Deep.Slices
import Derived.Deep.Fields
import Derived.ChangeSame
namespace Go.Proofs.Ytjfinnjmcnjciaa
open Go.ChangeShapes Go.WideShapes Go.Deep

theorem okWide_arr {P : Program} {w : World} {r : Reach} {b0 : Nat} {t e : TypeId} {n : Nat} {v : Value} (ht : P.underlying t = some (.array n e)) (h : Value.okWide P w r b0 t v) : ∃ cs, v = .agg cs ∧ cs.size = P.cellsOf t := by
  simp only [Value.okWide, ht] at h
  obtain ⟨cs, h1, h2, _⟩ := h
  exact ⟨cs, h1, h2⟩

theorem open_arr_ints {H : Type} {enc : TypeId × Value → H} {P : Program} {w : World} {base : Nat} {spare : Nat → Bool} {held : Bool} {r : Reach} {b0 : Nat} {t e : TypeId} {n : Nat} {k : IntKind} {v : Value} {d : DataW H} {p : List MemPlace}
    (ht : P.underlying t = some (.array n e)) (he : P.underlying e = some (.int k)) (hC : P.cellsOf t = n) (hE : P.cellsOf e = 1)
    (hv : Value.okWide P w r b0 t v) (h : DataW.Trod enc P w base spare held t v d p) : ∃ zs : List Int, zs.length = n ∧ v = .agg (zs.map (Value.int k)).toArray ∧ ∀ z ∈ zs, (Lit.int k z).wf = true := by
  obtain ⟨cs, rfl, hsz⟩ := okWide_arr ht hv
  obtain ⟨l⟩ := cs
  have hlen : l.length = n := hsz.trans hC
  obtain ⟨fuel, hf⟩ := h
  obtain ⟨xs, m, _, _, _, hxl, hel⟩ := DataW.trod_array ht hf
  have key : ∀ i, (hi : i < l.length) → ∃ z, l[i] = Value.int k z ∧ (Lit.int k z).wf = true := by
    intro i hi
    have h1 := hel i (by omega)
    rw [hE, Nat.mul_one] at h1
    have hx : i < xs.length := by omega
    rw [List.getElem?_eq_getElem hx] at h1
    obtain ⟨z, e0, e1, e2⟩ := DataW.trod_int he h1
    have e3 : List.take 1 (List.drop i l) = [Value.int k z] := e0
    rw [List.drop_eq_getElem_cons hi] at e3
    simp only [List.take_succ_cons, List.take_zero, List.cons.injEq, and_true] at e3
    exact ⟨z, e3, e2⟩
  have : ∀ l : List Value, (∀ i, (hi : i < l.length) → ∃ z, l[i] = Value.int k z ∧ (Lit.int k z).wf = true) → ∃ zs : List Int, zs.length = l.length ∧ l = zs.map (Value.int k) ∧ ∀ z ∈ zs, (Lit.int k z).wf = true := by
    intro l
    induction l with
    | nil => intro _; exact ⟨[], rfl, rfl, by simp⟩
    | cons v l ih =>
      intro hk
      obtain ⟨z, hz, hw⟩ := hk 0 (by simp)
      obtain ⟨zs, h1, h2, h3⟩ := ih fun i hi => hk (i + 1) (by simpa using hi)
      refine ⟨z :: zs, by simp [h1], by simpa using ⟨hz, h2⟩, fun y hy => ?_⟩
      rcases List.mem_cons.1 hy with rfl | hy
      · exact hw
      · exact h3 y hy
  obtain ⟨zs, h1, h2, h3⟩ := this l key
  exact ⟨zs, by omega, by rw [h2], h3⟩

theorem open_arr5 {H : Type} {enc : TypeId × Value → H} {P : Program} {w : World} {base : Nat} {spare : Nat → Bool} {held : Bool} {r : Reach} {b0 : Nat} {t e : TypeId} {k : IntKind} {v : Value} {d : DataW H} {p : List MemPlace}
    (ht : P.underlying t = some (.array 5 e)) (he : P.underlying e = some (.int k)) (hC : P.cellsOf t = 5) (hE : P.cellsOf e = 1)
    (hv : Value.okWide P w r b0 t v) (h : DataW.Trod enc P w base spare held t v d p) : ∃ k0 k1 k2 k3 k4 : Int, v = .agg #[.int k k0, .int k k1, .int k k2, .int k k3, .int k k4] := by
  obtain ⟨zs, h1, rfl, _⟩ := open_arr_ints ht he hC hE hv h
  match zs, h1 with
  | [a, b, c, d, e], _ => exact ⟨a, b, c, d, e, by simp⟩

theorem open_arr6 {H : Type} {enc : TypeId × Value → H} {P : Program} {w : World} {base : Nat} {spare : Nat → Bool} {held : Bool} {r : Reach} {b0 : Nat} {t e : TypeId} {k : IntKind} {v : Value} {d : DataW H} {p : List MemPlace}
    (ht : P.underlying t = some (.array 6 e)) (he : P.underlying e = some (.int k)) (hC : P.cellsOf t = 6) (hE : P.cellsOf e = 1)
    (hv : Value.okWide P w r b0 t v) (h : DataW.Trod enc P w base spare held t v d p) : ∃ k0 k1 k2 k3 k4 k5 : Int, v = .agg #[.int k k0, .int k k1, .int k k2, .int k k3, .int k k4, .int k k5] := by
  obtain ⟨zs, h1, rfl, _⟩ := open_arr_ints ht he hC hE hv h
  match zs, h1 with
  | [a, b, c, d, e, f], _ => exact ⟨a, b, c, d, e, f, by simp⟩

theorem open_arr4 {H : Type} {enc : TypeId × Value → H} {P : Program} {w : World} {base : Nat} {spare : Nat → Bool} {held : Bool} {r : Reach} {b0 : Nat} {t e : TypeId} {k : IntKind} {v : Value} {d : DataW H} {p : List MemPlace}
    (ht : P.underlying t = some (.array 4 e)) (he : P.underlying e = some (.int k)) (hC : P.cellsOf t = 4) (hE : P.cellsOf e = 1)
    (hv : Value.okWide P w r b0 t v) (h : DataW.Trod enc P w base spare held t v d p) : ∃ k0 k1 k2 k3 : Int, v = .agg #[.int k k0, .int k k1, .int k k2, .int k k3] := by
  obtain ⟨zs, h1, rfl, _⟩ := open_arr_ints ht he hC hE hv h
  match zs, h1 with
  | [a, b, c, d], _ => exact ⟨a, b, c, d, by simp⟩

theorem open_arr4w {H : Type} {enc : TypeId × Value → H} {P : Program} {w : World} {base : Nat} {spare : Nat → Bool} {held : Bool} {r : Reach} {b0 : Nat} {t e : TypeId} {k : IntKind} {v : Value} {d : DataW H} {p : List MemPlace}
    (ht : P.underlying t = some (.array 4 e)) (he : P.underlying e = some (.int k)) (hC : P.cellsOf t = 4) (hE : P.cellsOf e = 1)
    (hv : Value.okWide P w r b0 t v) (h : DataW.Trod enc P w base spare held t v d p) : ∃ k0 k1 k2 k3 : Int, v = .agg #[.int k k0, .int k k1, .int k k2, .int k k3] ∧ (Lit.int k k0).wf = true ∧ (Lit.int k k1).wf = true ∧ (Lit.int k k2).wf = true ∧ (Lit.int k k3).wf = true := by
  obtain ⟨zs, h1, rfl, hw⟩ := open_arr_ints ht he hC hE hv h
  match zs, h1 with
  | [a, b, c, d], _ => exact ⟨a, b, c, d, by simp, hw a (by simp), hw b (by simp), hw c (by simp), hw d (by simp)⟩

end Go.Proofs.Ytjfinnjmcnjciaa
