/-
  'told', which each statement of layer 2 ends in: it answers true, and nothing old has turned.
-/
import Derived.Test.YtjfinnjmcnjciaaMade
namespace Go.Proofs.Ytjfinnjmcnjciaa
open Go.RowKit

/-- A row that a literal has just laid. -/
theorem IntRow.lit (zs : List Int) (E : TypeId) (w : World) (cs : Array Value) (h : cs = (zs.map (Value.int .i64)).toArray) (n : Nat) (hn : n = zs.length) : IntRow (w.alloc (.cells cs E)) (some ⟨w.heap.size, 0, none⟩) n zs := by
  subst h hn
  refine ⟨rfl, .inr ⟨_, rfl, fun j hj => ?_⟩⟩
  rw [add_at, World.cell?_alloc_at _ _ _ _ rfl]
  simp [hj]

/-- An own row read as integers. -/
theorem IntRow.of_own {w : World} {B : Nat} {E : TypeId} {a : Option Addr} {n c : Nat} {zs : List Int} (h : w.ownsRow B E 1 (.slice a n c) n (zs.map (Value.int .i64))) : IntRow w a n zs := by
  have hl : zs.length = n := by simpa using h.1
  refine ⟨hl, ?_⟩
  rcases h.2 with ⟨h1, h0⟩ | ⟨g, cap, cur, h1, h2, h3, _⟩
  · simp only [Value.slice.injEq] at h1
    exact .inl ⟨h1.1, h0⟩
  · simp only [Value.slice.injEq] at h1
    obtain ⟨rfl, _, rfl⟩ := h1
    refine .inr ⟨_, rfl, fun j hj => ?_⟩
    rw [add_at, Nat.zero_add, h.cellAt j (by simpa using hj)]
    simp [hl, hj]

/-- An own row with an element: where it lies, and its first cell. -/
theorem own_head {w : World} {B : Nat} {E : TypeId} {v : Value} {n : Nat} {xs : List Value} (h : w.ownsRow B E 1 v n xs) (hn : 0 < n) :
    ∃ g c, v = .slice (some ⟨g, 0, none⟩) n c ∧ B ≤ g ∧ w.cell? ⟨g, 0, none⟩ = xs[0]? := by
  rcases h.2 with ⟨_, h0⟩ | ⟨g, cap, cur, h1, h2, h3, _⟩
  · omega
  · subst h1
    exact ⟨g, cap, rfl, h2, h.cellAt 0 (by simpa using hn)⟩

theorem add_told {w : World} {B b : Nat} {vw : Value} (h : Mem w B b vw (MS.new [7, 1])) :
    Calls Try.prog 150 #[.pointer (some ⟨b, 0, none⟩), .int .i64 0, .int .i64 5] w fun e w' => e = .returned (.tuple #[.int .i64 7, .int .i64 0]) ∧
      Mem w' B b vw (((MS.new [7, 1]).put 0 12).acc 4 0 5 7 true) ∧ Wrote (MemS b vw) w w' := by
  refine (Add_in 0 5 w B b vw _ h (by decide) (by decide)).mono ?_
  rintro e w' ⟨he, hm, hw⟩
  have e2 : wrap64 ((MS.new [7, 1]).zs.getD (Int.toNat 0) 0 + 5) = 12 := by decide +kernel
  rw [e2] at hm
  exact ⟨he, hm, hw⟩

theorem load_told {w : World} {B b : Nat} {vw : Value} (h : Mem w B b vw (((MS.new [7, 1]).put 0 12).acc 4 0 5 7 true)) :
    Calls Try.prog 107 #[.pointer (some ⟨b, 0, none⟩), .int .i64 0] w fun e w' => e = .returned (.tuple #[.int .i64 12, .int .i64 0]) ∧
      Mem w' B b vw ((((MS.new [7, 1]).put 0 12).acc 4 0 5 7 true).acc 1 0 12 12 true) ∧ Wrote (MemS b vw) w w' :=
  (Load_in 0 w B b vw _ h (by decide) (by decide)).mono fun _ _ ⟨he, hm, hw⟩ => ⟨he, hm, hw⟩

theorem steps_told {w : World} {B b : Nat} {vw : Value} (h : Mem w B b vw ((((MS.new [7, 1]).put 0 12).acc 4 0 5 7 true).acc 1 0 12 12 true)) :
    Calls Try.prog 51 #[.pointer (some ⟨b, 0, none⟩)] w fun e w' => e = .returned (.int .i64 2) ∧ w = w' := by
  refine (Steps_any w B b vw _ h).mono ?_
  rintro e w' ⟨he, hw⟩
  have e2 : ((((MS.new [7, 1]).put 0 12).acc 4 0 5 7 true).acc 1 0 12 12 true).steps = 2 := by decide +kernel
  rw [e2] at he
  exact ⟨he, hw⟩

end Go.Proofs.Ytjfinnjmcnjciaa
