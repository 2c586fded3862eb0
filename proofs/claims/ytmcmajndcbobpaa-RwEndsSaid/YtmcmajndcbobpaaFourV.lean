/-
  A row of four values in a block of its own.
-/
import Derived.Test.YtmcmajndcbobpaaBase
namespace Go.Proofs.Ytmcmajndcbobpaa
open Go.RowKit

/-- Block q is four cells of these values. -/
def FourV (T : TypeId) (w : World) (q : Nat) (vs : Nat → Value) : Prop := ∃ cs, w.heap[q]? = some (.cells cs T (0, 0)) ∧ cs.size = 4 ∧ ∀ k, k < 4 → cs[k]? = some (vs k)
theorem FourV.lt {T : TypeId} {w : World} {q : Nat} {vs : Nat → Value} (h : FourV T w q vs) : q < w.heap.size := by
  obtain ⟨cs, h, _⟩ := h
  exact lt_of_block h
theorem FourV.kept {T : TypeId} {S : Nat → Prop} {w w' : World} {q : Nat} {vs : Nat → Value} (k : FourV T w q vs) (hw : Wrote S w w') (hs' : ¬ S q) : FourV T w' q vs := by
  have hl := k.lt
  obtain ⟨cs, h, g⟩ := k
  exact ⟨cs, (hw.block q hl hs').trans h, g⟩
theorem FourV.below {T : TypeId} {w w' : World} {q : Nat} {vs : Nat → Value} (k : FourV T w q vs) (hb : Below w.heap.size w w') : FourV T w' q vs := k.kept (Wrote.of_below hb (fun _ => False)) fun h => h
theorem FourV.facts {T : TypeId} {w : World} {q : Nat} {vs : Nat → Value} (h : FourV T w q vs) {k : Nat} (hk : k < 4) : w.cell? ⟨q, k, none⟩ = some (vs k) ∧ (∀ i, w.frozen? ⟨q, i, none⟩ = false) := by
  obtain ⟨cs, hb, _, hc⟩ := h
  exact ⟨(cell_of_blk hb _).trans (hc k hk), fun i => frozen_of_blk hb i⟩
def updV {α : Type} (f : Nat → α) (k : Nat) (v : α) : Nat → α := fun j => if j = k then v else f j
theorem updV_at {α : Type} (f : Nat → α) (k : Nat) (v : α) : updV f k v k = v := by simp [updV]
theorem updV_ne {α : Type} {f : Nat → α} {k j : Nat} {v : α} (h : j ≠ k) : updV f k v j = f j := by simp [updV, h]
theorem FourV.set {T : TypeId} {w : World} {q : Nat} {α : Type} {g : α → Value} {f : Nat → α} (h : FourV T w q fun j => g (f j)) {k : Nat} (hk : k < 4) (v : α) : FourV T (w.setCell ⟨q, k, none⟩ (g v)) q fun j => g (updV f k v j) := by
  obtain ⟨cs, hb, hz, hc⟩ := h
  refine ⟨_, blk_setCell hb _ _, by simp [hz], fun j hj => ?_⟩
  show _ = some (g (updV f k v j))
  by_cases e : j = k
  · subst e
    rw [updV_at, Array.getElem?_setIfInBounds]
    simp [hz, hj]
  · rw [updV_ne e, Array.getElem?_setIfInBounds_ne (fun h => e h.symm)]
    exact hc j hj
theorem FourV.new {T : TypeId} (w : World) (v : Value) : FourV T (w.alloc (.cells #[v, v, v, v] T)) w.heap.size fun _ => v := by
  refine ⟨_, heap_alloc_new _ _, rfl, fun k hk => ?_⟩
  have : k = 0 ∨ k = 1 ∨ k = 2 ∨ k = 3 := by omega
  rcases this with rfl | rfl | rfl | rfl <;> rfl

end Go.Proofs.Ytmcmajndcbobpaa
