/-
  An argument that is a slice of accesses, opened to its cells.
-/
import Derived.Test.YtaecjlpjcecgmaaRows
import Derived.WalkKit
import Derived.ProofKit
import Derived.Deep.Slices
import Derived.Deep.Fields
import Derived.ChangeSame
namespace Go.Proofs.Ytaecjlpjcecgmaa
open Go.ChangeShapes Go.WideShapes Go.Deep

theorem cellsOp : Try.prog.cellsOf 31 = 4 := by kernel_rfl
theorem cellsInt : Try.prog.cellsOf 3 = 1 := by kernel_rfl
theorem cellsI64 : Try.prog.cellsOf 2 = 1 := by kernel_rfl

section
variable {H : Type} {enc : TypeId × Value → H} {w : World} {spare : Nat → Bool} {held : Bool}

/-- One access, read out of its four cells. -/
theorem op_of {n : Nat} {cs : List Value} {x : DataW H × List MemPlace} (h : DataW.trod enc Try.prog w 0 spare held n 31 cs = some x) :
    ∃ k p u v : Int, cs = [.int .i64 k, .int .i64 p, .int .i64 u, .int .i64 v] := by
  obtain ⟨xs, m, _, _, hlen, hxl, hf⟩ := DataW.trod_struct Try.underlying31 h
  rw [cellsOp] at hlen
  match cs, hlen with
  | [c0, c1, c2, c3], _ =>
    match xs, hxl with
    | [y0, y1, y2, y3], _ =>
      have h0 : DataW.trod enc Try.prog w 0 spare held m 3 [c0] = some y0 := by simpa [cellsInt] using hf 0 _ rfl
      have h1 : DataW.trod enc Try.prog w 0 spare held m 3 [c1] = some y1 := by simpa [cellsInt] using hf 1 _ rfl
      have h2 : DataW.trod enc Try.prog w 0 spare held m 2 [c2] = some y2 := by simpa [cellsI64] using hf 2 _ rfl
      have h3 : DataW.trod enc Try.prog w 0 spare held m 2 [c3] = some y3 := by simpa [cellsI64] using hf 3 _ rfl
      obtain ⟨k, e0, _, _⟩ := DataW.trod_int Try.underlying3 h0
      obtain ⟨p, e1, _, _⟩ := DataW.trod_int Try.underlying3 h1
      obtain ⟨u, e2, _, _⟩ := DataW.trod_int Try.underlying2 h2
      obtain ⟨v, e3, _, _⟩ := DataW.trod_int Try.underlying2 h3
      simp at e0 e1 e2 e3
      exact ⟨k, p, u, v, by rw [e0, e1, e2, e3]⟩

/-- A slice of accesses: nil, or its cells. -/
theorem ops_of {a : Option Addr} {len cap : Nat} {d : DataW H} {p : List MemPlace} (h : DataW.Trod enc Try.prog w 0 (fun _ => true) held 23 (.slice a len cap) d p) :
    len ≤ maxLen ∧ ((a = none ∧ len = 0) ∨ ∃ x : Addr, a = some x ∧ ∀ i, i < len → ∃ k p u v : Int, w.cell? (x.add (i * 4)) = some (.int .i64 k) ∧ w.cell? (x.add (i * 4 + 1)) = some (.int .i64 p) ∧
      w.cell? (x.add (i * 4 + 2)) = some (.int .i64 u) ∧ w.cell? (x.add (i * 4 + 3)) = some (.int .i64 v)) := by
  obtain ⟨fuel, hf⟩ := h
  rcases open_slice Try.underlying23 hf with ⟨hcs, _⟩ | ⟨x, l, c, m, n, D, Pl, hcs, _, hl, hm, hmm, _, hi⟩
  · simp [Value.cells] at hcs
    obtain ⟨rfl, rfl, rfl⟩ := hcs
    exact ⟨Nat.zero_le _, .inl ⟨rfl, rfl⟩⟩
  · simp [Value.cells] at hcs
    obtain ⟨rfl, rfl, rfl⟩ := hcs
    refine ⟨Nat.le_trans hl hm, .inr ⟨x, rfl, fun i hil => ?_⟩⟩
    obtain ⟨cs', hc, ht⟩ := hi i (by simp only [if_true] at hmm; omega)
    rw [cellsOp] at hc
    obtain ⟨k, q, u, v, rfl⟩ := op_of ht
    obtain ⟨_, _, hat⟩ := World.cells?_some hc
    refine ⟨k, q, u, v, ?_, ?_, ?_, ?_⟩
    · have := hat 0 (by omega); rw [add_add] at this; exact this
    · have := hat 1 (by omega); rw [add_add] at this; exact this
    · have := hat 2 (by omega); rw [add_add] at this; exact this
    · have := hat 3 (by omega); rw [add_add] at this; exact this
end
end Go.Proofs.Ytaecjlpjcecgmaa
