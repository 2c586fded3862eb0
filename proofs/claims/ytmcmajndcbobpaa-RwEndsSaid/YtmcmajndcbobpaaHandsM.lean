/-
  Arrays of four hands: a block of twenty cells.
-/
import Derived.Test.YtmcmajndcbobpaaMcU
namespace Go.Proofs.Ytmcmajndcbobpaa
open Go.RowKit
attribute [local go_sem] Later.cell Later.frozen

/-- Twenty cells that read as four hands. -/
def FourC (cs : Array Value) (hs : Nat → HD) : Prop :=
  cs.size = 20 ∧ ∀ k, k < 4 → cs[k * 5]? = some (.int .i64 (hs k).t) ∧ cs[k * 5 + 1]? = some (.int .i64 (hs k).l) ∧ cs[k * 5 + 2]? = some (.int .i64 (hs k).s) ∧ cs[k * 5 + 3]? = some (.bool (hs k).rd) ∧ cs[k * 5 + 4]? = some (.int .i64 (hs k).x)

/-- Block q is four hands. -/
def FourAt (w : World) (q : Nat) (hs : Nat → HD) : Prop := ∃ cs, w.heap[q]? = some (.cells cs 51 (0, 0)) ∧ FourC cs hs

theorem FourAt.lt {w : World} {q : Nat} {hs : Nat → HD} (h : FourAt w q hs) : q < w.heap.size := by
  obtain ⟨cs, h, _⟩ := h
  exact lt_of_block h
theorem FourAt.kept {S : Nat → Prop} {w w' : World} {q : Nat} {hs : Nat → HD} (k : FourAt w q hs) (hw : Wrote S w w') (hs' : ¬ S q) : FourAt w' q hs := by
  have hl := k.lt
  obtain ⟨cs, h, g⟩ := k
  exact ⟨cs, (hw.block q hl hs').trans h, g⟩
theorem FourAt.below {w w' : World} {q : Nat} {hs : Nat → HD} (k : FourAt w q hs) (hb : Below w.heap.size w w') : FourAt w' q hs := k.kept (Wrote.of_below hb (fun _ => False)) fun h => h
theorem FourAt.facts {w : World} {q : Nat} {hs : Nat → HD} (h : FourAt w q hs) {k : Nat} (hk : k < 4) :
    w.cell? ⟨q, k * 5, none⟩ = some (.int .i64 (hs k).t) ∧ w.cell? ⟨q, k * 5 + 1, none⟩ = some (.int .i64 (hs k).l) ∧ w.cell? ⟨q, k * 5 + 2, none⟩ = some (.int .i64 (hs k).s) ∧ w.cell? ⟨q, k * 5 + 3, none⟩ = some (.bool (hs k).rd) ∧ w.cell? ⟨q, k * 5 + 4, none⟩ = some (.int .i64 (hs k).x) ∧ (∀ i, w.frozen? ⟨q, i, none⟩ = false) := by
  obtain ⟨cs, hb, _, hc⟩ := h
  obtain ⟨c0, c1, c2, c3, c4⟩ := hc k hk
  exact ⟨(cell_of_blk hb _).trans c0, (cell_of_blk hb _).trans c1, (cell_of_blk hb _).trans c2, (cell_of_blk hb _).trans c3, (cell_of_blk hb _).trans c4, fun i => frozen_of_blk hb i⟩

theorem FourC.set {cs : Array Value} {hs : Nat → HD} (h : FourC cs hs) {k : Nat} (hk : k < 4) (g : HD) :
    FourC (((((cs.setIfInBounds (k * 5) (.int .i64 g.t)).setIfInBounds (k * 5 + 1) (.int .i64 g.l)).setIfInBounds (k * 5 + 2) (.int .i64 g.s)).setIfInBounds (k * 5 + 3) (.bool g.rd)).setIfInBounds (k * 5 + 4) (.int .i64 g.x)) (upd hs k g) := by
  obtain ⟨hz, hc⟩ := h
  refine ⟨by simp [hz], fun j hj => ?_⟩
  by_cases e : j = k
  · subst e
    rw [upd_at]
    refine ⟨?_, ?_, ?_, ?_, ?_⟩
    · simp only [Array.getElem?_setIfInBounds]
      have : j * 5 < cs.size := by omega
      simp [this]
    · simp only [Array.getElem?_setIfInBounds]
      have : j * 5 + 1 < cs.size := by omega
      simp [this]
    · simp only [Array.getElem?_setIfInBounds]
      have : j * 5 + 2 < cs.size := by omega
      simp [this]
    · simp only [Array.getElem?_setIfInBounds]
      have : j * 5 + 3 < cs.size := by omega
      simp [this]
    · simp only [Array.getElem?_setIfInBounds]
      have : j * 5 + 4 < cs.size := by omega
      simp [this]
  · rw [upd_ne e]
    obtain ⟨c0, c1, c2, c3, c4⟩ := hc j hj
    refine ⟨?_, ?_, ?_, ?_, ?_⟩
    · rw [Array.getElem?_setIfInBounds_ne (by omega), Array.getElem?_setIfInBounds_ne (by omega), Array.getElem?_setIfInBounds_ne (by omega), Array.getElem?_setIfInBounds_ne (by omega), Array.getElem?_setIfInBounds_ne (by omega)]; exact c0
    · rw [Array.getElem?_setIfInBounds_ne (by omega), Array.getElem?_setIfInBounds_ne (by omega), Array.getElem?_setIfInBounds_ne (by omega), Array.getElem?_setIfInBounds_ne (by omega), Array.getElem?_setIfInBounds_ne (by omega)]; exact c1
    · rw [Array.getElem?_setIfInBounds_ne (by omega), Array.getElem?_setIfInBounds_ne (by omega), Array.getElem?_setIfInBounds_ne (by omega), Array.getElem?_setIfInBounds_ne (by omega), Array.getElem?_setIfInBounds_ne (by omega)]; exact c2
    · rw [Array.getElem?_setIfInBounds_ne (by omega), Array.getElem?_setIfInBounds_ne (by omega), Array.getElem?_setIfInBounds_ne (by omega), Array.getElem?_setIfInBounds_ne (by omega), Array.getElem?_setIfInBounds_ne (by omega)]; exact c3
    · rw [Array.getElem?_setIfInBounds_ne (by omega), Array.getElem?_setIfInBounds_ne (by omega), Array.getElem?_setIfInBounds_ne (by omega), Array.getElem?_setIfInBounds_ne (by omega), Array.getElem?_setIfInBounds_ne (by omega)]; exact c4

/-- One of the four is stored. -/
theorem FourAt.set {w : World} {q : Nat} {hs : Nat → HD} (h : FourAt w q hs) {k : Nat} (hk : k < 4) (g : HD) :
    FourAt (((((w.setCell ⟨q, k * 5, none⟩ (.int .i64 g.t)).setCell ⟨q, k * 5 + 1, none⟩ (.int .i64 g.l)).setCell ⟨q, k * 5 + 2, none⟩ (.int .i64 g.s)).setCell ⟨q, k * 5 + 3, none⟩ (.bool g.rd)).setCell ⟨q, k * 5 + 4, none⟩ (.int .i64 g.x)) q (upd hs k g) := by
  obtain ⟨cs, hb, hc⟩ := h
  exact ⟨_, blk_setCell (blk_setCell (blk_setCell (blk_setCell (blk_setCell hb _ _) _ _) _ _) _ _) _ _, hc.set hk g⟩
theorem Wrote.setAt5 {S : Nat → Prop} {w W : World} (hw : Wrote S w W) {q o0 o1 o2 o3 o4 : Nat} (hq : q < w.heap.size → S q) (a b c d e : Value) :
    Wrote S w (((((W.setCell ⟨q, o0, none⟩ a).setCell ⟨q, o1, none⟩ b).setCell ⟨q, o2, none⟩ c).setCell ⟨q, o3, none⟩ d).setCell ⟨q, o4, none⟩ e) :=
  ((((hw.setCell (p := ⟨q, o0, none⟩) hq a).setCell (p := ⟨q, o1, none⟩) hq b).setCell (p := ⟨q, o2, none⟩) hq c).setCell (p := ⟨q, o3, none⟩) hq d).setCell (p := ⟨q, o4, none⟩) hq e

/-- Four hands of nobody. -/
def four0 : Array Value := #[.int .i64 0, .int .i64 0, .int .i64 0, .bool false, .int .i64 0, .int .i64 0, .int .i64 0, .int .i64 0, .bool false, .int .i64 0, .int .i64 0, .int .i64 0, .int .i64 0, .bool false, .int .i64 0, .int .i64 0, .int .i64 0, .int .i64 0, .bool false, .int .i64 0]
theorem four0_c : FourC four0 (fun _ => h0) := by
  refine ⟨rfl, fun k hk => ?_⟩
  have : k = 0 ∨ k = 1 ∨ k = 2 ∨ k = 3 := by omega
  rcases this with rfl | rfl | rfl | rfl <;> exact ⟨rfl, rfl, rfl, rfl, rfl⟩
theorem FourAt.new (w : World) : FourAt (w.alloc (.cells four0 51)) w.heap.size (fun _ => h0) := ⟨four0, heap_alloc_new _ _, four0_c⟩

end Go.Proofs.Ytmcmajndcbobpaa
