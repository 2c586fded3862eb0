/-
  An argument that is a slice of ops (two ints, an int64), opened.
-/
import Derived.Test.YtdkjeggichgimaaWrT
import Derived.Test.YtdkjeggichgimaaRows
import Derived.WalkKit
import Derived.ProofKit
import Derived.OpenShut
import Derived.ShutString
import Derived.ChangeOld
import Derived.Below
import Derived.Deep.Slices
import Derived.Deep.Fields
import Derived.ChangeSame
namespace Go.Proofs.Ytdkjeggichgimaa
open Go.ChangeShapes Go.WideShapes Go.ChangeAt Go.RowKit Go.Deep
set_option linter.unusedVariables false

abbrev Tri := Int × Int × Int
/-- Three cells that are an op. -/
structure TAt (w : World) (b o : Nat) (p : Tri) : Prop where
  c0 : w.cell? ⟨b, o, none⟩ = some (.int .i64 p.1)
  c1 : w.cell? ⟨b, o + 1, none⟩ = some (.int .i64 p.2.1)
  c2 : w.cell? ⟨b, o + 2, none⟩ = some (.int .i64 p.2.2)
theorem TAt.keep {w w' : World} {b o : Nat} {p : Tri} (h : TAt w b o p) (hb : w'.heap[b]? = w.heap[b]?) : TAt w' b o p := by
  have e : ∀ j, w'.cell? ⟨b, j, none⟩ = w.cell? ⟨b, j, none⟩ := fun j => World.cell?_of_block (a := ⟨b, j, none⟩) hb
  exact ⟨(e _).trans h.c0, (e _).trans h.c1, (e _).trans h.c2⟩
/-- A slice that reads as these ops: nil, or a row of cells. -/
structure TRow (w : World) (a : Option Addr) (len : Nat) (ps : List Tri) : Prop where
  cnt : ps.length = len
  row : len = 0 ∨ ∃ b off, a = some ⟨b, off, none⟩ ∧ b < w.heap.size ∧ ∀ k p, ps[k]? = some p → TAt w b (off + k * 3) p
theorem TRow.below {w w' : World} {a : Option Addr} {len : Nat} {ps : List Tri} (h : TRow w a len ps) (hb : Below w.heap.size w w') : TRow w' a len ps := by
  refine ⟨h.cnt, ?_⟩
  rcases h.row with h' | ⟨b, off, rfl, hlt, hc⟩
  · exact .inl h'
  · exact .inr ⟨b, off, rfl, Nat.lt_of_lt_of_le hlt hb.size, fun k i hk => (hc k i hk).keep (hb.block _ hlt)⟩
theorem TRow.at {w : World} {a : Option Addr} {len : Nat} {ps : List Tri} (h : TRow w a len ps) (hl : 0 < len) : ∃ b off, a = some ⟨b, off, none⟩ ∧ b < w.heap.size ∧ ∀ k p, ps[k]? = some p → TAt w b (off + k * 3) p := by
  rcases h.row with h' | h'
  · omega
  · exact h'
theorem tri_at {ps : List Tri} {k : Nat} (h : k < ps.length) : ∃ p, ps[k]? = some p := ⟨_, List.getElem?_eq_getElem h⟩

theorem open_ops {H : Type} {enc : TypeId × Value → H} {W : World} {base : Nat} {sp : Nat → Bool} {held : Bool} {v : Value} {d : DataW H} {p : List MemPlace} {b0 : Nat} (hv : Value.okWide Try.prog W .any b0 22 v)
    (h : DataW.Trod enc Try.prog W base sp held 22 v d p) : ∃ a len cap ws, v = .slice a len cap ∧ TRow W a len ws := by
  obtain ⟨a, len, cap, rfl⟩ := okWide_slice Try.underlying22 hv
  obtain ⟨fuel, hf⟩ := h
  have hce : Try.prog.cellsOf 33 = 3 := by kernel_rfl
  have hc1 : Try.prog.cellsOf 3 = 1 := by kernel_rfl
  have hc2 : Try.prog.cellsOf 2 = 1 := by kernel_rfl
  rcases open_slice Try.underlying22 hf with ⟨hcs, _⟩ | ⟨x, l, c, m, n, D, Pl, hcs, _, hl, hm, hmm, _, hel⟩
  · simp [Value.cells] at hcs
    obtain ⟨rfl, rfl, rfl⟩ := hcs
    exact ⟨none, 0, 0, [], rfl, rfl, .inl rfl⟩
  · simp [Value.cells] at hcs
    obtain ⟨rfl, rfl, rfl⟩ := hcs
    have hlm : len ≤ m := by rw [hmm]; split <;> omega
    have key : ∀ i, i < len → ∃ r : Tri, W.cell? (x.add (i * 3)) = some (.int .i64 r.1) ∧ W.cell? (x.add (i * 3 + 1)) = some (.int .i64 r.2.1) ∧ W.cell? (x.add (i * 3 + 2)) = some (.int .i64 r.2.2) := by
      intro i hi
      obtain ⟨cs', hc, ht'⟩ := hel i (by omega)
      rw [hce] at hc
      obtain ⟨ys, n', _, _, hlen, hyl, hfl⟩ := DataW.trod_struct Try.underlying33 ht'
      obtain ⟨_, hcl, hat⟩ := World.cells?_some hc
      match cs', hcl, hat, hfl with
      | [e0, e1, e2], _, hat, hfl =>
        match ys, hyl, hfl with
        | [y0, y1, y2], _, hfl =>
          have g0 := hfl 0 _ rfl
          have g1 := hfl 1 _ rfl
          have g2 := hfl 2 _ rfl
          change DataW.trod enc Try.prog W base sp held n' 3 ([e0, e1, e2].take (Try.prog.cellsOf 3)) = some y0 at g0
          change DataW.trod enc Try.prog W base sp held n' 3 ([e1, e2].take (Try.prog.cellsOf 3)) = some y1 at g1
          change DataW.trod enc Try.prog W base sp held n' 2 ([e2].take (Try.prog.cellsOf 2)) = some y2 at g2
          rw [hc1] at g0
          rw [hc1] at g1
          rw [hc2] at g2
          obtain ⟨z0, q0, _, w0⟩ := DataW.trod_int Try.underlying3 g0
          obtain ⟨z1, q1, _, w1⟩ := DataW.trod_int Try.underlying3 g1
          obtain ⟨z2, q2, _, w2⟩ := DataW.trod_int Try.underlying2 g2
          have p0 : e0 = .int .i64 z0 := by simpa using q0
          have p1 : e1 = .int .i64 z1 := by simpa using q1
          have p2 : e2 = .int .i64 z2 := by simpa using q2
          subst p0 p1 p2
          have ad1 : x.add (i * 3 + 1) = (x.add (i * 3)).add 1 := by rw [add_add]
          have ad2 : x.add (i * 3 + 2) = (x.add (i * 3)).add 2 := by rw [add_add]
          have ad0 : x.add (i * 3) = (x.add (i * 3)).add 0 := by rw [add_add, Nat.add_zero]
          refine ⟨(z0, z1, z2), ?_, ?_, ?_⟩
          · rw [ad0, hat 0 (by omega)]; rfl
          · rw [ad1, hat 1 (by omega)]; rfl
          · rw [ad2, hat 2 (by omega)]; rfl
    have list : ∀ n, n ≤ len → ∃ rs : List Tri, rs.length = n ∧ ∀ k r, rs[k]? = some r → W.cell? (x.add (k * 3)) = some (.int .i64 r.1) ∧ W.cell? (x.add (k * 3 + 1)) = some (.int .i64 r.2.1) ∧ W.cell? (x.add (k * 3 + 2)) = some (.int .i64 r.2.2) := by
      intro n
      induction n with
      | zero => intro _; exact ⟨[], rfl, fun k r h => by simp at h⟩
      | succ n ih =>
        intro hn
        obtain ⟨rs, h1, h3⟩ := ih (by omega)
        obtain ⟨r, hr⟩ := key n (by omega)
        refine ⟨rs ++ [r], by simp [h1], fun k q hq => ?_⟩
        by_cases hk : k < rs.length
        · rw [List.getElem?_append_left hk] at hq
          exact h3 k q hq
        · have hkl := (List.getElem?_eq_some_iff.1 hq).1
          simp at hkl
          have hkn : k = n := by omega
          subst hkn
          rw [List.getElem?_append_right (by omega)] at hq
          simp [h1] at hq
          subst hq
          exact hr
    obtain ⟨rs, h1, h3⟩ := list len (Nat.le_refl _)
    refine ⟨some x, len, cap, rs, rfl, h1, ?_⟩
    by_cases h0 : len = 0
    · exact .inl h0
    · obtain ⟨b, off, spn⟩ := x
      have hr0 : rs[0]? = some rs[0] := List.getElem?_eq_getElem (by omega)
      have hz := (h3 0 _ hr0).1
      have hsp : spn = none := by
        cases spn with
        | none => rfl
        | some q =>
          exfalso
          rw [Nat.zero_mul, add_zero] at hz
          simp only [World.cell?] at hz
          split at hz <;> simp at hz
      subst hsp
      rw [Nat.zero_mul, add_zero] at hz
      refine .inr ⟨b, off, rfl, World.block_lt_of_cell? W _ hz, fun k r hk => ?_⟩
      obtain ⟨g0, g1, g2⟩ := h3 k r hk
      rw [add_at] at g0 g1 g2
      exact ⟨g0, by rw [Nat.add_assoc]; exact g1, by rw [Nat.add_assoc]; exact g2⟩

end Go.Proofs.Ytdkjeggichgimaa
