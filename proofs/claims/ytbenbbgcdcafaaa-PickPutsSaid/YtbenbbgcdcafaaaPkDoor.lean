/-
  An argument that is a slice of picks, opened to its cells.
-/
import Derived.Test.YtbenbbgcdcafaaaPkLPuts
import Derived.ChangeOld
import Derived.ProofKit
import Derived.Deep.Slices
import Derived.Deep.Fields
namespace Go.Proofs.Ytbenbbgcdcafaaa
open Go.ChangeShapes Go.WideShapes Go.ChangeAt Go.RowKit Go.Deep
set_option linter.unusedVariables false

set_option maxRecDepth 100000 in
theorem open_picks {H : Type} {enc : TypeId × Value → H} {W : World} {base : Nat} {sp : Nat → Bool} {held : Bool} {v : Value} {d : DataW H} {p : List MemPlace} {b0 : Nat} (hv : Value.okWide Try.prog W .any b0 24 v)
    (h : DataW.Trod enc Try.prog W base sp held 24 v d p) : ∃ a len cap ls, v = .slice a len cap ∧ PkRow W a len ls ∧ (a = none → len = 0 ∧ cap = 0) ∧ len ≤ maxLen := by
  obtain ⟨a, len, cap, rfl⟩ := okWide_slice Try.underlying24 hv
  obtain ⟨fuel, hf⟩ := h
  have hce : Try.prog.cellsOf 32 = 3 := by kernel_rfl
  have hc1 : Try.prog.cellsOf 3 = 1 := by kernel_rfl
  have hc2 : Try.prog.cellsOf 4 = 1 := by kernel_rfl
  rcases open_slice Try.underlying24 hf with ⟨hcs, _⟩ | ⟨x, l, c, m, n, D, Pl, hcs, _, hl, hm, hmm, _, hel⟩
  · simp [Value.cells] at hcs
    obtain ⟨rfl, rfl, rfl⟩ := hcs
    exact ⟨none, 0, 0, [], rfl, ⟨rfl, .inl rfl⟩, fun _ => ⟨rfl, rfl⟩, Nat.zero_le _⟩
  · simp [Value.cells] at hcs
    obtain ⟨rfl, rfl, rfl⟩ := hcs
    have hlm : len ≤ m := by rw [hmm]; split <;> omega
    have key : ∀ i, i < len → ∃ r : Pk, (W.cell? (x.add (i * 3)) = some (.int .i64 r.t) ∧ W.cell? (x.add (i * 3 + 1)) = some (.bool r.a) ∧ W.cell? (x.add (i * 3 + 2)) = some (.int .i64 r.d)) := by
      intro i hi
      obtain ⟨cs', hc, ht'⟩ := hel i (by omega)
      rw [hce] at hc
      obtain ⟨ys, n', _, _, hlen, hyl, hfl⟩ := DataW.trod_struct Try.underlying32 ht'
      obtain ⟨_, hcl, hat⟩ := World.cells?_some hc
      match cs', hcl, hat, hfl with
      | [e0, e1, e2], _, hat, hfl =>
        match ys, hyl, hfl with
        | [y0, y1, y2], _, hfl =>
          have g0 := hfl 0 _ rfl
          have g1 := hfl 1 _ rfl
          have g2 := hfl 2 _ rfl
          change DataW.trod enc Try.prog W base sp held n' 3 ([e0, e1, e2].take (Try.prog.cellsOf 3)) = some y0 at g0
          change DataW.trod enc Try.prog W base sp held n' 4 ([e1, e2].take (Try.prog.cellsOf 4)) = some y1 at g1
          change DataW.trod enc Try.prog W base sp held n' 3 ([e2].take (Try.prog.cellsOf 3)) = some y2 at g2
          rw [hc1] at g0 g2
          rw [hc2] at g1
          obtain ⟨z0, q0, _, w0⟩ := DataW.trod_int Try.underlying3 g0
          obtain ⟨z1, q1, _⟩ := DataW.trod_bool Try.underlying4 g1
          obtain ⟨z2, q2, _, w2⟩ := DataW.trod_int Try.underlying3 g2
          simp at q0 q1 q2
          subst q0 q1 q2
          have ad : ∀ j, x.add (i * 3 + j) = (x.add (i * 3)).add j := fun j => by rw [add_add]
          have ad0 : x.add (i * 3) = (x.add (i * 3)).add 0 := by rw [add_add, Nat.add_zero]
          refine ⟨⟨z0, z1, z2⟩, ?_, ?_, ?_⟩
          · rw [ad0, hat 0 (by omega)]; rfl
          · rw [ad, hat 1 (by omega)]; rfl
          · rw [ad, hat 2 (by omega)]; rfl
    have list : ∀ n, n ≤ len → ∃ rs : List Pk, rs.length = n ∧ ∀ (k : Nat) (r : Pk), rs[k]? = some r → W.cell? (x.add (k * 3)) = some (.int .i64 r.t) ∧ W.cell? (x.add (k * 3 + 1)) = some (.bool r.a) ∧ W.cell? (x.add (k * 3 + 2)) = some (.int .i64 r.d) := by
      intro n
      induction n with
      | zero => intro _; exact ⟨[], rfl, fun k r h => by simp at h⟩
      | succ n ih =>
        intro hn
        obtain ⟨rs, h1, h3⟩ := ih (by omega)
        obtain ⟨r, hc⟩ := key n (by omega)
        refine ⟨rs ++ [r], by simp [h1], fun k q hq => ?_⟩
        by_cases hk : k < rs.length
        · rw [List.getElem?_append_left hk] at hq
          exact h3 k q hq
        · have hkl := (List.getElem?_eq_some_iff.1 hq).1
          simp at hkl
          have hkn : k = n := by omega
          subst hkn
          rw [List.getElem?_append_right (by omega)] at hq
          simp [h1] at hq
          subst hq
          exact hc
    obtain ⟨rs, h1, h3⟩ := list len (Nat.le_refl _)
    refine ⟨some x, len, cap, rs, rfl, ⟨h1, ?_⟩, fun h => (by cases h), Nat.le_trans hl hm⟩
    by_cases h0 : len = 0
    · exact .inl h0
    · obtain ⟨b, off, spn⟩ := x
      have hr0 : rs[0]? = some rs[0] := List.getElem?_eq_getElem (by omega)
      have hz := (h3 0 _ hr0).1
      have hsp : spn = none := by
        cases spn with
        | none => rfl
        | some q =>
          exfalso
          rw [Nat.zero_mul, add_zero] at hz
          simp only [World.cell?] at hz
          split at hz <;> simp at hz
      subst hsp
      have hlt := World.block_lt_of_cell? W _ hz
      rw [block_add] at hlt
      refine .inr ⟨b, off, rfl, hlt, fun k r hk => ?_⟩
      obtain ⟨k0, k1, k2⟩ := h3 k r hk
      rw [add_at] at k0 k1 k2
      exact ⟨k0, by rw [Nat.add_assoc]; exact k1, by rw [Nat.add_assoc]; exact k2⟩

end Go.Proofs.Ytbenbbgcdcafaaa
