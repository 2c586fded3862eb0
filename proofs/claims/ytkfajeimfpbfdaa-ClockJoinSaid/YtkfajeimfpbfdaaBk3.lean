/-
  Arrays of three bumps (a block of twelve cells), and of three int64s.
-/
import Derived.Test.YtkfajeimfpbfdaaBmp
namespace Go.Proofs.Ytkfajeimfpbfdaa
open Go.RowKit
attribute [local go_sem] Later.cell Later.frozen

def updA {α : Type} (f : Nat → α) (k : Nat) (v : α) : Nat → α := fun j => if j = k then v else f j
theorem updA_at {α : Type} (f : Nat → α) (k : Nat) (v : α) : updA f k v k = v := by simp [updA]
theorem updA_ne {α : Type} {f : Nat → α} {k j : Nat} {v : α} (e : j ≠ k) : updA f k v j = f j := by simp [updA, e]

/-- Twelve cells that read as three bumps. -/
def BumpsC (cs : Array Value) (hs : Nat → BD) : Prop :=
  cs.size = 12 ∧ ∀ k, k < 3 → cs[k * 4]? = some (.int .i64 (hs k).k) ∧ cs[k * 4 + 1]? = some (.int .i64 (hs k).s) ∧ cs[k * 4 + 2]? = some (.int .i64 (hs k).x) ∧ cs[k * 4 + 3]? = some (.int .i64 (hs k).p)
/-- Block q is three bumps. -/
def BumpsAt (w : World) (q : Nat) (hs : Nat → BD) : Prop := ∃ cs, w.heap[q]? = some (.cells cs 80 (0, 0)) ∧ BumpsC cs hs
section
variable {w w' : World} {q : Nat} {hs : Nat → BD}
theorem BumpsAt.lt (h : BumpsAt w q hs) : q < w.heap.size := by
  obtain ⟨cs, h, _⟩ := h
  exact lt_of_block h
theorem BumpsAt.kept {S : Nat → Prop} (k : BumpsAt w q hs) (hw : Wrote S w w') (hs' : ¬ S q) : BumpsAt w' q hs := by
  have hl := k.lt
  obtain ⟨cs, h, g⟩ := k
  exact ⟨cs, (hw.block q hl hs').trans h, g⟩
theorem BumpsAt.below (k : BumpsAt w q hs) (hb : Below w.heap.size w w') : BumpsAt w' q hs := k.kept (Wrote.of_below hb (fun _ => False)) fun h => h
theorem BumpsAt.facts (h : BumpsAt w q hs) {k : Nat} (hk : k < 3) :
    w.cell? ⟨q, k * 4, none⟩ = some (.int .i64 (hs k).k) ∧ w.cell? ⟨q, k * 4 + 1, none⟩ = some (.int .i64 (hs k).s) ∧ w.cell? ⟨q, k * 4 + 2, none⟩ = some (.int .i64 (hs k).x) ∧ w.cell? ⟨q, k * 4 + 3, none⟩ = some (.int .i64 (hs k).p) ∧ (∀ i, w.frozen? ⟨q, i, none⟩ = false) := by
  obtain ⟨cs, hb, _, hc⟩ := h
  obtain ⟨c0, c1, c2, c3⟩ := hc k hk
  exact ⟨(cell_of_blk hb _).trans c0, (cell_of_blk hb _).trans c1, (cell_of_blk hb _).trans c2, (cell_of_blk hb _).trans c3, fun i => frozen_of_blk hb i⟩
end
theorem BumpsC.set {cs : Array Value} {hs : Nat → BD} (h : BumpsC cs hs) {k : Nat} (hk : k < 3) (g : BD) :
    BumpsC ((((cs.setIfInBounds (k * 4) (.int .i64 g.k)).setIfInBounds (k * 4 + 1) (.int .i64 g.s)).setIfInBounds (k * 4 + 2) (.int .i64 g.x)).setIfInBounds (k * 4 + 3) (.int .i64 g.p)) (updA hs k g) := by
  obtain ⟨hz, hc⟩ := h
  refine ⟨by simp [hz], fun j hj => ?_⟩
  by_cases e : j = k
  · subst e
    rw [updA_at]
    refine ⟨?_, ?_, ?_, ?_⟩
    · simp only [Array.getElem?_setIfInBounds]
      have : j * 4 < cs.size := by omega
      simp [this]
    · simp only [Array.getElem?_setIfInBounds]
      have : j * 4 + 1 < cs.size := by omega
      simp [this]
    · simp only [Array.getElem?_setIfInBounds]
      have : j * 4 + 2 < cs.size := by omega
      simp [this]
    · simp only [Array.getElem?_setIfInBounds]
      have : j * 4 + 3 < cs.size := by omega
      simp [this]
  · rw [updA_ne e]
    obtain ⟨c0, c1, c2, c3⟩ := hc j hj
    refine ⟨?_, ?_, ?_, ?_⟩
    · rw [Array.getElem?_setIfInBounds_ne (by omega), Array.getElem?_setIfInBounds_ne (by omega), Array.getElem?_setIfInBounds_ne (by omega), Array.getElem?_setIfInBounds_ne (by omega)]; exact c0
    · rw [Array.getElem?_setIfInBounds_ne (by omega), Array.getElem?_setIfInBounds_ne (by omega), Array.getElem?_setIfInBounds_ne (by omega), Array.getElem?_setIfInBounds_ne (by omega)]; exact c1
    · rw [Array.getElem?_setIfInBounds_ne (by omega), Array.getElem?_setIfInBounds_ne (by omega), Array.getElem?_setIfInBounds_ne (by omega), Array.getElem?_setIfInBounds_ne (by omega)]; exact c2
    · rw [Array.getElem?_setIfInBounds_ne (by omega), Array.getElem?_setIfInBounds_ne (by omega), Array.getElem?_setIfInBounds_ne (by omega), Array.getElem?_setIfInBounds_ne (by omega)]; exact c3
theorem BumpsAt.set {w : World} {q : Nat} {hs : Nat → BD} (h : BumpsAt w q hs) {k : Nat} (hk : k < 3) (g : BD) :
    BumpsAt ((((w.setCell ⟨q, k * 4, none⟩ (.int .i64 g.k)).setCell ⟨q, k * 4 + 1, none⟩ (.int .i64 g.s)).setCell ⟨q, k * 4 + 2, none⟩ (.int .i64 g.x)).setCell ⟨q, k * 4 + 3, none⟩ (.int .i64 g.p)) q (updA hs k g) := by
  obtain ⟨cs, hb, hc⟩ := h
  exact ⟨_, blk_setCell (blk_setCell (blk_setCell (blk_setCell hb _ _) _ _) _ _) _ _, hc.set hk g⟩
def three0 : Array Value := #[.int .i64 0, .int .i64 0, .int .i64 0, .int .i64 0, .int .i64 0, .int .i64 0, .int .i64 0, .int .i64 0, .int .i64 0, .int .i64 0, .int .i64 0, .int .i64 0]
theorem three0_c : BumpsC three0 (fun _ => b0) := by
  refine ⟨rfl, fun k hk => ?_⟩
  rcases (show k = 0 ∨ k = 1 ∨ k = 2 by omega) with rfl | rfl | rfl <;> exact ⟨rfl, rfl, rfl, rfl⟩
theorem BumpsAt.new (w : World) : BumpsAt (w.alloc (.cells three0 80)) w.heap.size (fun _ => b0) := ⟨three0, heap_alloc_new _ _, three0_c⟩
theorem Wrote.setB4 {S : Nat → Prop} {w W : World} (hw : Wrote S w W) {q o0 o1 o2 o3 : Nat} (hq : q < w.heap.size → S q) (a b c d : Value) :
    Wrote S w ((((W.setCell ⟨q, o0, none⟩ a).setCell ⟨q, o1, none⟩ b).setCell ⟨q, o2, none⟩ c).setCell ⟨q, o3, none⟩ d) :=
  (((hw.setCell (p := ⟨q, o0, none⟩) hq a).setCell (p := ⟨q, o1, none⟩) hq b).setCell (p := ⟨q, o2, none⟩) hq c).setCell (p := ⟨q, o3, none⟩) hq d

/-- Block q is three int64s. -/
def Thr (w : World) (q : Nat) (xs : Nat → Int) : Prop := ∃ cs, w.heap[q]? = some (.cells cs 81 (0, 0)) ∧ cs.size = 3 ∧ ∀ k, k < 3 → cs[k]? = some (.int .i64 (xs k))
section
variable {w w' : World} {q : Nat} {xs : Nat → Int}
theorem Thr.lt (h : Thr w q xs) : q < w.heap.size := by
  obtain ⟨cs, h, _⟩ := h
  exact lt_of_block h
theorem Thr.kept {S : Nat → Prop} (k : Thr w q xs) (hw : Wrote S w w') (hs' : ¬ S q) : Thr w' q xs := by
  have hl := k.lt
  obtain ⟨cs, h, g⟩ := k
  exact ⟨cs, (hw.block q hl hs').trans h, g⟩
theorem Thr.below (k : Thr w q xs) (hb : Below w.heap.size w w') : Thr w' q xs := k.kept (Wrote.of_below hb (fun _ => False)) fun h => h
theorem Thr.facts (h : Thr w q xs) {k : Nat} (hk : k < 3) : w.cell? ⟨q, k, none⟩ = some (.int .i64 (xs k)) ∧ (∀ i, w.frozen? ⟨q, i, none⟩ = false) := by
  obtain ⟨cs, hb, _, hc⟩ := h
  exact ⟨(cell_of_blk hb _).trans (hc k hk), fun i => frozen_of_blk hb i⟩
theorem Thr.new (w : World) : Thr (w.alloc (.cells #[.int .i64 0, .int .i64 0, .int .i64 0] 81)) w.heap.size (fun _ => 0) := by
  refine ⟨_, heap_alloc_new _ _, rfl, fun k hk => ?_⟩
  rcases (show k = 0 ∨ k = 1 ∨ k = 2 by omega) with rfl | rfl | rfl <;> rfl
theorem Thr.set (h : Thr w q xs) {k : Nat} (hk : k < 3) (v : Int) : Thr (w.setCell ⟨q, k, none⟩ (.int .i64 v)) q (updA xs k v) := by
  obtain ⟨cs, hb, hz, hc⟩ := h
  refine ⟨_, blk_setCell hb k _, by simp [hz], fun j hj => ?_⟩
  by_cases e : j = k
  · subst e
    rw [updA_at, Array.getElem?_setIfInBounds]
    have : j < cs.size := by omega
    simp [this]
  · rw [updA_ne e, Array.getElem?_setIfInBounds_ne (by omega)]
    exact hc j hj
end

end Go.Proofs.Ytkfajeimfpbfdaa
