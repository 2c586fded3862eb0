/-
  An argument that is a slice of pairs of numbers: its cells.
-/
import Derived.Test.YtbobjhadckeieaaDoorRows
import Derived.Test.YtbobjhadckeieaaDoorBase
import Derived.WalkKit
import Derived.ProofKit
import Derived.OpenShut
import Derived.ChangeOld
import Derived.Deep.Slices
import Derived.Deep.Fields
import Derived.ChangeSame
namespace Go.Proofs.YtbobjhadckeieaaDoor
open Go.ChangeShapes Go.WideShapes Go.ChangeAt Go.RowKit Go.Deep
set_option linter.unusedVariables false

/-- A slice that reads as these pairs: nil, or a row of cells. -/
structure PairRow (w : World) (a : Option Addr) (len : Nat) (zs : List (Int × Int)) : Prop where
  cnt : zs.length = len
  row : len = 0 ∨ ∃ b off, a = some ⟨b, off, none⟩ ∧ b < w.heap.size ∧ ∀ k z, zs[k]? = some z → w.cell? ⟨b, off + k * 2, none⟩ = some (.int .i64 z.1) ∧ w.cell? ⟨b, off + k * 2 + 1, none⟩ = some (.int .i64 z.2)
theorem PairRow.below {w w' : World} {a : Option Addr} {len : Nat} {zs : List (Int × Int)} (h : PairRow w a len zs) (hb : Below w.heap.size w w') : PairRow w' a len zs := by
  refine ⟨h.cnt, ?_⟩
  rcases h.row with h' | ⟨b, off, rfl, hlt, hc⟩
  · exact .inl h'
  · exact .inr ⟨b, off, rfl, Nat.lt_of_lt_of_le hlt hb.size, fun k z hk => ⟨(hb.cell (p := ⟨b, off + k * 2, none⟩) hlt).trans (hc k z hk).1, (hb.cell (p := ⟨b, off + k * 2 + 1, none⟩) hlt).trans (hc k z hk).2⟩⟩
theorem PairRow.at {w : World} {a : Option Addr} {len : Nat} {zs : List (Int × Int)} (h : PairRow w a len zs) (hl : 0 < len) : ∃ b off, a = some ⟨b, off, none⟩ ∧ b < w.heap.size ∧ ∀ k z, zs[k]? = some z → w.cell? ⟨b, off + k * 2, none⟩ = some (.int .i64 z.1) ∧ w.cell? ⟨b, off + k * 2 + 1, none⟩ = some (.int .i64 z.2) := by
  rcases h.row with h' | h'
  · omega
  · exact h'
theorem wf_bounds2 {n : Int} (h : (Lit.int .i64 n).wf = true) : -9223372036854775808 ≤ n ∧ n ≤ 9223372036854775807 := by
  simpa [Lit.wf, IntKind.min, IntKind.max, IntKind.signed, IntKind.bits] using h

set_option maxRecDepth 100000 in
theorem open_pairs {H : Type} {enc : TypeId × Value → H} {W : World} {base : Nat} {sp : Nat → Bool} {held : Bool} {v : Value} {d : DataW H} {p : List MemPlace} {b0 : Nat} (hv : Value.okWide Tryd.prog W .any b0 41 v)
    (h : DataW.Trod enc Tryd.prog W base sp held 41 v d p) : ∃ a len cap zs, v = .slice a len cap ∧ PairRow W a len zs ∧ len ≤ maxLen ∧ ∀ z ∈ zs, (-9223372036854775808 ≤ z.1 ∧ z.1 ≤ 9223372036854775807) ∧ (-9223372036854775808 ≤ z.2 ∧ z.2 ≤ 9223372036854775807) := by
  obtain ⟨a, len, cap, rfl⟩ := okWide_slice Tryd.underlying41 hv
  obtain ⟨fuel, hf⟩ := h
  have hce : Tryd.prog.cellsOf 46 = 2 := by kernel_rfl
  have hc1 : Tryd.prog.cellsOf 3 = 1 := by kernel_rfl
  rcases open_slice Tryd.underlying41 hf with ⟨hcs, _⟩ | ⟨x, l, c, m, n, D, Pl, hcs, _, hl, hm, hmm, _, hel⟩
  · simp [Value.cells] at hcs
    obtain ⟨rfl, rfl, rfl⟩ := hcs
    exact ⟨none, 0, 0, [], rfl, ⟨rfl, .inl rfl⟩, Nat.zero_le _, by simp⟩
  · simp [Value.cells] at hcs
    obtain ⟨rfl, rfl, rfl⟩ := hcs
    have hlm : len ≤ m := by rw [hmm]; split <;> omega
    have key : ∀ i, i < len → ∃ z : Int × Int, ((-9223372036854775808 ≤ z.1 ∧ z.1 ≤ 9223372036854775807) ∧ (-9223372036854775808 ≤ z.2 ∧ z.2 ≤ 9223372036854775807)) ∧ (W.cell? (x.add (i * 2)) = some (.int .i64 z.1) ∧ W.cell? (x.add (i * 2 + 1)) = some (.int .i64 z.2)) := by
      intro i hi
      obtain ⟨cs', hc, ht'⟩ := hel i (by omega)
      rw [hce] at hc
      obtain ⟨ys, n', _, _, hlen, hyl, hfl⟩ := DataW.trod_array Tryd.underlying46 ht'
      obtain ⟨_, hcl, hat⟩ := World.cells?_some hc
      match cs', hcl, hat, hfl with
      | [e0, e1], _, hat, hfl =>
        match ys, hyl, hfl with
        | [y0, y1], _, hfl =>
          have g0 := hfl 0 (by omega)
          have g1 := hfl 1 (by omega)
          rw [hc1] at g0 g1
          obtain ⟨z0, q0, _, w0⟩ := DataW.trod_int Tryd.underlying3 g0
          obtain ⟨z1, q1, _, w1⟩ := DataW.trod_int Tryd.underlying3 g1
          simp at q0 q1
          subst q0 q1
          have ad : ∀ j, x.add (i * 2 + j) = (x.add (i * 2)).add j := fun j => by rw [add_add]
          have ad0 : x.add (i * 2) = (x.add (i * 2)).add 0 := by rw [add_add, Nat.add_zero]
          refine ⟨⟨z0, z1⟩, ⟨wf_bounds2 w0, wf_bounds2 w1⟩, ?_, ?_⟩
          · rw [ad0, hat 0 (by omega)]; rfl
          · rw [ad, hat 1 (by omega)]; rfl
    have list : ∀ n, n ≤ len → ∃ rs : List (Int × Int), rs.length = n ∧ (∀ z ∈ rs, (-9223372036854775808 ≤ z.1 ∧ z.1 ≤ 9223372036854775807) ∧ (-9223372036854775808 ≤ z.2 ∧ z.2 ≤ 9223372036854775807)) ∧ ∀ (k : Nat) (r : Int × Int), rs[k]? = some r → W.cell? (x.add (k * 2)) = some (.int .i64 r.1) ∧ W.cell? (x.add (k * 2 + 1)) = some (.int .i64 r.2) := by
      intro n
      induction n with
      | zero => intro _; exact ⟨[], rfl, by simp, fun k r h => by simp at h⟩
      | succ n ih =>
        intro hn
        obtain ⟨rs, h1, h2, h3⟩ := ih (by omega)
        obtain ⟨r, hr, hc⟩ := key n (by omega)
        refine ⟨rs ++ [r], by simp [h1], fun q hq => ?_, fun k q hq => ?_⟩
        · rcases List.mem_append.1 hq with hq | hq
          · exact h2 q hq
          · simp at hq; subst hq; exact hr
        · by_cases hk : k < rs.length
          · rw [List.getElem?_append_left hk] at hq
            exact h3 k q hq
          · have hkl := (List.getElem?_eq_some_iff.1 hq).1
            simp at hkl
            have hkn : k = n := by omega
            subst hkn
            rw [List.getElem?_append_right (by omega)] at hq
            simp [h1] at hq
            subst hq
            exact hc
    obtain ⟨rs, h1, h2, h3⟩ := list len (Nat.le_refl _)
    refine ⟨some x, len, cap, rs, rfl, ⟨h1, ?_⟩, Nat.le_trans hl hm, h2⟩
    by_cases h0 : len = 0
    · exact .inl h0
    · obtain ⟨b, off, spn⟩ := x
      have hr0 : rs[0]? = some rs[0] := List.getElem?_eq_getElem (by omega)
      have hz := (h3 0 _ hr0).1
      have hsp : spn = none := by
        cases spn with
        | none => rfl
        | some q =>
          exfalso
          rw [Nat.zero_mul, add_zero] at hz
          simp only [World.cell?] at hz
          split at hz <;> simp at hz
      subst hsp
      have hlt := World.block_lt_of_cell? W _ hz
      rw [block_add] at hlt
      refine .inr ⟨b, off, rfl, hlt, fun k r hk => ?_⟩
      obtain ⟨k0, k1⟩ := h3 k r hk
      rw [add_at] at k0 k1
      exact ⟨k0, by rw [Nat.add_assoc]; exact k1⟩

end Go.Proofs.YtbobjhadckeieaaDoor
