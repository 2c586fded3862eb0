/-
  An argument that is a slice of words, opened.
-/
import Derived.Test.YtdkjeggichgimaaRdT
import Derived.Test.YtdkjeggichgimaaRows
import Derived.WalkKit
import Derived.ProofKit
import Derived.OpenShut
import Derived.ShutString
import Derived.ChangeOld
import Derived.Below
import Derived.Deep.Slices
import Derived.Deep.Fields
import Derived.ChangeSame
namespace Go.Proofs.Ytdkjeggichgimaa
open Go.ChangeShapes Go.WideShapes Go.ChangeAt Go.RowKit Go.Deep
set_option linter.unusedVariables false

theorem open_words {H : Type} {enc : TypeId × Value → H} {W : World} {base : Nat} {sp : Nat → Bool} {held : Bool} {v : Value} {d : DataW H} {p : List MemPlace} {b0 : Nat} (hv : Value.okWide Try.prog W .any b0 29 v)
    (h : DataW.Trod enc Try.prog W base sp held 29 v d p) : ∃ a len cap ws, v = .slice a len cap ∧ WRow W a len ws := by
  obtain ⟨a, len, cap, rfl⟩ := okWide_slice Try.underlying29 hv
  obtain ⟨fuel, hf⟩ := h
  have hce : Try.prog.cellsOf 42 = 2 := by kernel_rfl
  have hc1 : Try.prog.cellsOf 3 = 1 := by kernel_rfl
  have hc2 : Try.prog.cellsOf 2 = 1 := by kernel_rfl
  rcases open_slice Try.underlying29 hf with ⟨hcs, _⟩ | ⟨x, l, c, m, n, D, Pl, hcs, _, hl, hm, hmm, _, hel⟩
  · simp [Value.cells] at hcs
    obtain ⟨rfl, rfl, rfl⟩ := hcs
    exact ⟨none, 0, 0, [], rfl, WRow.nil _⟩
  · simp [Value.cells] at hcs
    obtain ⟨rfl, rfl, rfl⟩ := hcs
    have hlm : len ≤ m := by rw [hmm]; split <;> omega
    have key : ∀ i, i < len → ∃ r : Wd, W.cell? (x.add (i * 2)) = some (.int .i64 r.1) ∧ W.cell? (x.add (i * 2 + 1)) = some (.int .i64 r.2) := by
      intro i hi
      obtain ⟨cs', hc, ht'⟩ := hel i (by omega)
      rw [hce] at hc
      obtain ⟨ys, n', _, _, hlen, hyl, hfl⟩ := DataW.trod_struct Try.underlying42 ht'
      obtain ⟨_, hcl, hat⟩ := World.cells?_some hc
      match cs', hcl, hat, hfl with
      | [e0, e1], _, hat, hfl =>
        match ys, hyl, hfl with
        | [y0, y1], _, hfl =>
          have g0 := hfl 0 _ rfl
          have g1 := hfl 1 _ rfl
          change DataW.trod enc Try.prog W base sp held n' 3 ([e0, e1].take (Try.prog.cellsOf 3)) = some y0 at g0
          change DataW.trod enc Try.prog W base sp held n' 2 ([e1].take (Try.prog.cellsOf 2)) = some y1 at g1
          rw [hc1] at g0
          rw [hc2] at g1
          obtain ⟨z0, q0, _, w0⟩ := DataW.trod_int Try.underlying3 g0
          obtain ⟨z1, q1, _, w1⟩ := DataW.trod_int Try.underlying2 g1
          have p0 : e0 = .int .i64 z0 := by simpa using q0
          have p1 : e1 = .int .i64 z1 := by simpa using q1
          subst p0 p1
          have ad1 : x.add (i * 2 + 1) = (x.add (i * 2)).add 1 := by rw [add_add]
          have ad0 : x.add (i * 2) = (x.add (i * 2)).add 0 := by rw [add_add, Nat.add_zero]
          refine ⟨(z0, z1), ?_, ?_⟩
          · rw [ad0, hat 0 (by omega)]; rfl
          · rw [ad1, hat 1 (by omega)]; rfl
    have list : ∀ n, n ≤ len → ∃ rs : List Wd, rs.length = n ∧ ∀ k r, rs[k]? = some r → W.cell? (x.add (k * 2)) = some (.int .i64 r.1) ∧ W.cell? (x.add (k * 2 + 1)) = some (.int .i64 r.2) := by
      intro n
      induction n with
      | zero => intro _; exact ⟨[], rfl, fun k r h => by simp at h⟩
      | succ n ih =>
        intro hn
        obtain ⟨rs, h1, h3⟩ := ih (by omega)
        obtain ⟨r, hr⟩ := key n (by omega)
        refine ⟨rs ++ [r], by simp [h1], fun k q hq => ?_⟩
        by_cases hk : k < rs.length
        · rw [List.getElem?_append_left hk] at hq
          exact h3 k q hq
        · have hkl := (List.getElem?_eq_some_iff.1 hq).1
          simp at hkl
          have hkn : k = n := by omega
          subst hkn
          rw [List.getElem?_append_right (by omega)] at hq
          simp [h1] at hq
          subst hq
          exact hr
    obtain ⟨rs, h1, h3⟩ := list len (Nat.le_refl _)
    refine ⟨some x, len, cap, rs, rfl, h1, ?_⟩
    by_cases h0 : len = 0
    · exact .inl h0
    · obtain ⟨b, off, spn⟩ := x
      have hr0 : rs[0]? = some rs[0] := List.getElem?_eq_getElem (by omega)
      have hz := (h3 0 _ hr0).1
      have hsp : spn = none := by
        cases spn with
        | none => rfl
        | some q =>
          exfalso
          rw [Nat.zero_mul, add_zero] at hz
          simp only [World.cell?] at hz
          split at hz <;> simp at hz
      subst hsp
      rw [Nat.zero_mul, add_zero] at hz
      refine .inr ⟨b, off, rfl, World.block_lt_of_cell? W _ hz, fun k r hk => ?_⟩
      obtain ⟨g0, g1⟩ := h3 k r hk
      rw [add_at] at g0 g1
      exact ⟨g0, by rw [Nat.add_assoc]; exact g1⟩

end Go.Proofs.Ytdkjeggichgimaa
