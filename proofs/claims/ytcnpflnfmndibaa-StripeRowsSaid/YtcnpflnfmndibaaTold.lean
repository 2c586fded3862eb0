/-
  'told', which each statement of layer 2 ends in: it answers true, and nothing old has turned.
-/
import Derived.Test.YtcnpflnfmndibaaMade
namespace Go.Proofs.Ytcnpflnfmndibaa
open Go.RowKit

/-- A row that a literal has just laid. -/
theorem IntRow.lit (zs : List Int) (E : TypeId) (w : World) (cs : Array Value) (h : cs = (zs.map (Value.int .i64)).toArray) (n : Nat) (hn : n = zs.length) : IntRow (w.alloc (.cells cs E)) (some ⟨w.heap.size, 0, none⟩) n zs := by
  subst h hn
  refine ⟨rfl, .inr ⟨_, rfl, fun j hj => ?_⟩⟩
  rw [add_at, World.cell?_alloc_at _ _ _ _ rfl]
  simp [hj]

/-- An own row read as integers. -/
theorem IntRow.of_own {w : World} {B : Nat} {E : TypeId} {a : Option Addr} {n c : Nat} {zs : List Int} (h : w.ownsRow B E 1 (.slice a n c) n (zs.map (Value.int .i64))) : IntRow w a n zs := by
  have hl : zs.length = n := by simpa using h.1
  refine ⟨hl, ?_⟩
  rcases h.2 with ⟨h1, h0⟩ | ⟨g, cap, cur, h1, h2, h3, _⟩
  · simp only [Value.slice.injEq] at h1
    exact .inl ⟨h1.1, h0⟩
  · simp only [Value.slice.injEq] at h1
    obtain ⟨rfl, _, rfl⟩ := h1
    refine .inr ⟨_, rfl, fun j hj => ?_⟩
    rw [add_at, Nat.zero_add, h.cellAt j (by simpa using hj)]
    simp [hl, hj]

/-- An own row with an element: where it lies, and its first cell. -/
theorem own_head {w : World} {B : Nat} {E : TypeId} {v : Value} {n : Nat} {xs : List Value} (h : w.ownsRow B E 1 v n xs) (hn : 0 < n) :
    ∃ g c, v = .slice (some ⟨g, 0, none⟩) n c ∧ B ≤ g ∧ w.cell? ⟨g, 0, none⟩ = xs[0]? := by
  rcases h.2 with ⟨_, h0⟩ | ⟨g, cap, cur, h1, h2, h3, _⟩
  · omega
  · subst h1
    exact ⟨g, cap, rfl, h2, h.cellAt 0 (by simpa using hn)⟩

end Go.Proofs.Ytcnpflnfmndibaa
