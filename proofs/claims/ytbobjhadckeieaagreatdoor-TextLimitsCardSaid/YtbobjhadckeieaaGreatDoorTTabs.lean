/-
  What the calls of package text find at package level: the table of shapes, the library's powers of ten and errors.
-/
import Derived.Test.YtbobjhadckeieaaGreatDoorTShp
import Derived.Test.YtbobjhadckeieaaGreatDoorTRow
import Derived.Test.YtbobjhadckeieaaGreatDoorShelf
namespace Go.Proofs.YtbobjhadckeieaaGreatDoor
open Go.RowKit
set_option linter.unusedVariables false

structure Tabs (w : World) : Prop where
  shapes : ∃ t fr, w.heap[10]? = some (.cells shapesCs t fr)
  pow : Lib.TabIs Tryz.prog w "internal/strconv.uint64pow10" .u64 Lib.pow10Tab
  syn : ∃ te pe, w.cell? ⟨15, 0, none⟩ = some (.iface te pe)
  rng : ∃ te pe, w.cell? ⟨16, 0, none⟩ = some (.iface te pe)
  most : ∃ m, w.cell? ⟨12, 0, none⟩ = some (.int .i64 m)
  text : ∃ b, w.cell? ⟨2, 0, none⟩ = some (.iface 208 b)

theorem tabIs_below {P : Program} {w w' : World} {name : String} {k : IntKind} {zs : List Int} (h : Lib.TabIs P w name k zs) (hb : Below w.heap.size w w') : Lib.TabIs P w' name k zs := by
  unfold Lib.TabIs World.var? at h ⊢
  cases hg : P.globalNamed name with
  | none => rw [hg] at h; cases h
  | some g =>
    rw [hg] at h
    dsimp only [Option.bind_some] at h ⊢
    have hlt : g < w.heap.size := by
      cases hh : w.heap[g]? with
      | none => rw [hh] at h; cases h
      | some o => exact (Array.getElem?_eq_some_iff.1 hh).1
    rw [hb.block g hlt]
    exact h
theorem Tabs.below {w w' : World} (h : Tabs w) (hb : Below w.heap.size w w') : Tabs w' := by
  obtain ⟨⟨t, fr, h1⟩, h2, ⟨_, _, h3⟩, ⟨_, _, h4⟩, ⟨_, h5⟩, ⟨_, h6⟩⟩ := h
  have k : ∀ {b : Nat} {v : Value}, w.cell? ⟨b, 0, none⟩ = some v → w'.cell? ⟨b, 0, none⟩ = some v := fun {b v} h => (hb.cell (p := ⟨b, 0, none⟩) (World.block_lt_of_cell? w _ h)).trans h
  exact ⟨⟨t, fr, (hb.block _ (lt_of_block h1)).trans h1⟩, tabIs_below h2 hb, ⟨_, _, k h3⟩, ⟨_, _, k h4⟩, ⟨_, k h5⟩, ⟨_, k h6⟩⟩

end Go.Proofs.YtbobjhadckeieaaGreatDoor
