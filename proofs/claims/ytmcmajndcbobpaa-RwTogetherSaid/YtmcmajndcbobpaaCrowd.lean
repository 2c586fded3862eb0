/-
  Four hands, who of them is on its way out, how often each had the lock: one block of 28 cells.
-/
import Derived.Test.YtmcmajndcbobpaaMcAt
import Derived.Test.YtmcmajndcbobpaaFourV
import Derived.Test.YtmcmajndcbobpaaStageN
import Derived.Test.YtmcmajndcbobpaaRwT
namespace Go.Proofs.Ytmcmajndcbobpaa
open Go.RowKit
attribute [local go_sem] Later.cell Later.frozen

def CrC (cs : Array Value) (hs : Nat → HD) (os : Nat → Bool) (ns : Nat → Int) : Prop :=
  cs.size = 28 ∧ ∀ k, k < 4 → (cs[k * 5]? = some (.int .i64 (hs k).t) ∧ cs[k * 5 + 1]? = some (.int .i64 (hs k).l) ∧ cs[k * 5 + 2]? = some (.int .i64 (hs k).s) ∧ cs[k * 5 + 3]? = some (.bool (hs k).rd) ∧ cs[k * 5 + 4]? = some (.int .i64 (hs k).x)) ∧ cs[20 + k]? = some (.bool (os k)) ∧ cs[24 + k]? = some (.int .i64 (ns k))
def CrAt (w : World) (q : Nat) (hs : Nat → HD) (os : Nat → Bool) (ns : Nat → Int) : Prop := ∃ cs, w.heap[q]? = some (.cells cs 56 (0, 0)) ∧ CrC cs hs os ns
section
variable {w w' : World} {q : Nat} {hs : Nat → HD} {os : Nat → Bool} {ns : Nat → Int}
theorem CrAt.lt (h : CrAt w q hs os ns) : q < w.heap.size := by
  obtain ⟨cs, h, _⟩ := h
  exact lt_of_block h
theorem CrAt.kept {S : Nat → Prop} (k : CrAt w q hs os ns) (hw : Wrote S w w') (hs' : ¬ S q) : CrAt w' q hs os ns := by
  have hl := k.lt
  obtain ⟨cs, h, g⟩ := k
  exact ⟨cs, (hw.block q hl hs').trans h, g⟩
theorem CrAt.below (k : CrAt w q hs os ns) (hb : Below w.heap.size w w') : CrAt w' q hs os ns := k.kept (Wrote.of_below hb (fun _ => False)) fun h => h
theorem CrAt.facts (h : CrAt w q hs os ns) {k : Nat} (hk : k < 4) :
    w.cell? ⟨q, k * 5, none⟩ = some (.int .i64 (hs k).t) ∧ w.cell? ⟨q, k * 5 + 1, none⟩ = some (.int .i64 (hs k).l) ∧ w.cell? ⟨q, k * 5 + 2, none⟩ = some (.int .i64 (hs k).s) ∧ w.cell? ⟨q, k * 5 + 3, none⟩ = some (.bool (hs k).rd) ∧ w.cell? ⟨q, k * 5 + 4, none⟩ = some (.int .i64 (hs k).x) ∧ w.cell? ⟨q, 20 + k, none⟩ = some (.bool (os k)) ∧ w.cell? ⟨q, 24 + k, none⟩ = some (.int .i64 (ns k)) ∧ (∀ i, w.frozen? ⟨q, i, none⟩ = false) := by
  obtain ⟨cs, hb, _, hc⟩ := h
  obtain ⟨⟨c0, c1, c2, c3, c4⟩, c5, c6⟩ := hc k hk
  exact ⟨(cell_of_blk hb _).trans c0, (cell_of_blk hb _).trans c1, (cell_of_blk hb _).trans c2, (cell_of_blk hb _).trans c3, (cell_of_blk hb _).trans c4, (cell_of_blk hb _).trans c5, (cell_of_blk hb _).trans c6, fun i => frozen_of_blk hb i⟩
theorem setIn_ne {cs : Array Value} {i j : Nat} {v : Value} (h : i ≠ j) : (cs.setIfInBounds i v)[j]? = cs[j]? := Array.getElem?_setIfInBounds_ne h
theorem setIn_at {cs : Array Value} {i : Nat} {v : Value} (h : i < cs.size) : (cs.setIfInBounds i v)[i]? = some v := by simp [Array.getElem?_setIfInBounds, h]
/-- One of the hands is stored. -/
theorem CrAt.setH (h : CrAt w q hs os ns) {k : Nat} (hk : k < 4) (g : HD) :
    CrAt (((((w.setCell ⟨q, k * 5, none⟩ (.int .i64 g.t)).setCell ⟨q, k * 5 + 1, none⟩ (.int .i64 g.l)).setCell ⟨q, k * 5 + 2, none⟩ (.int .i64 g.s)).setCell ⟨q, k * 5 + 3, none⟩ (.bool g.rd)).setCell ⟨q, k * 5 + 4, none⟩ (.int .i64 g.x)) q (upd hs k g) os ns := by
  obtain ⟨cs, hb, hz, hc⟩ := h
  refine ⟨_, blk_setCell (blk_setCell (blk_setCell (blk_setCell (blk_setCell hb _ _) _ _) _ _) _ _) _ _, by simp [hz], fun j hj => ?_⟩
  obtain ⟨⟨c0, c1, c2, c3, c4⟩, c5, c6⟩ := hc j hj
  refine ⟨?_, ?_, ?_⟩
  · by_cases e : j = k
    · subst e
      rw [upd_at]
      refine ⟨?_, ?_, ?_, ?_, ?_⟩
      · rw [setIn_ne (by omega), setIn_ne (by omega), setIn_ne (by omega), setIn_ne (by omega), setIn_at (by omega)]
      · rw [setIn_ne (by omega), setIn_ne (by omega), setIn_ne (by omega), setIn_at (by simp; omega)]
      · rw [setIn_ne (by omega), setIn_ne (by omega), setIn_at (by simp; omega)]
      · rw [setIn_ne (by omega), setIn_at (by simp; omega)]
      · rw [setIn_at (by simp; omega)]
    · rw [upd_ne e]
      refine ⟨?_, ?_, ?_, ?_, ?_⟩
      · rw [setIn_ne (by omega), setIn_ne (by omega), setIn_ne (by omega), setIn_ne (by omega), setIn_ne (by omega)]; exact c0
      · rw [setIn_ne (by omega), setIn_ne (by omega), setIn_ne (by omega), setIn_ne (by omega), setIn_ne (by omega)]; exact c1
      · rw [setIn_ne (by omega), setIn_ne (by omega), setIn_ne (by omega), setIn_ne (by omega), setIn_ne (by omega)]; exact c2
      · rw [setIn_ne (by omega), setIn_ne (by omega), setIn_ne (by omega), setIn_ne (by omega), setIn_ne (by omega)]; exact c3
      · rw [setIn_ne (by omega), setIn_ne (by omega), setIn_ne (by omega), setIn_ne (by omega), setIn_ne (by omega)]; exact c4
  · rw [setIn_ne (by omega), setIn_ne (by omega), setIn_ne (by omega), setIn_ne (by omega), setIn_ne (by omega)]; exact c5
  · rw [setIn_ne (by omega), setIn_ne (by omega), setIn_ne (by omega), setIn_ne (by omega), setIn_ne (by omega)]; exact c6
theorem CrAt.setO (h : CrAt w q hs os ns) {k : Nat} (hk : k < 4) (b : Bool) : CrAt (w.setCell ⟨q, 20 + k, none⟩ (.bool b)) q hs (updV os k b) ns := by
  obtain ⟨cs, hb, hz, hc⟩ := h
  refine ⟨_, blk_setCell hb _ _, by simp [hz], fun j hj => ?_⟩
  obtain ⟨⟨c0, c1, c2, c3, c4⟩, c5, c6⟩ := hc j hj
  refine ⟨⟨?_, ?_, ?_, ?_, ?_⟩, ?_, ?_⟩
  · rw [setIn_ne (by omega)]; exact c0
  · rw [setIn_ne (by omega)]; exact c1
  · rw [setIn_ne (by omega)]; exact c2
  · rw [setIn_ne (by omega)]; exact c3
  · rw [setIn_ne (by omega)]; exact c4
  · by_cases e : j = k
    · subst e; rw [updV_at, setIn_at (by omega)]
    · rw [updV_ne e, setIn_ne (by omega)]; exact c5
  · rw [setIn_ne (by omega)]; exact c6
theorem CrAt.setN (h : CrAt w q hs os ns) {k : Nat} (hk : k < 4) (v : Int) : CrAt (w.setCell ⟨q, 24 + k, none⟩ (.int .i64 v)) q hs os (updV ns k v) := by
  obtain ⟨cs, hb, hz, hc⟩ := h
  refine ⟨_, blk_setCell hb _ _, by simp [hz], fun j hj => ?_⟩
  obtain ⟨⟨c0, c1, c2, c3, c4⟩, c5, c6⟩ := hc j hj
  refine ⟨⟨?_, ?_, ?_, ?_, ?_⟩, ?_, ?_⟩
  · rw [setIn_ne (by omega)]; exact c0
  · rw [setIn_ne (by omega)]; exact c1
  · rw [setIn_ne (by omega)]; exact c2
  · rw [setIn_ne (by omega)]; exact c3
  · rw [setIn_ne (by omega)]; exact c4
  · rw [setIn_ne (by omega)]; exact c5
  · by_cases e : j = k
    · subst e; rw [updV_at, setIn_at (by omega)]
    · rw [updV_ne e, setIn_ne (by omega)]; exact c6
end
def crowd0 : Array Value := #[.int .i64 0, .int .i64 0, .int .i64 0, .bool false, .int .i64 0, .int .i64 0, .int .i64 0, .int .i64 0, .bool false, .int .i64 0, .int .i64 0, .int .i64 0, .int .i64 0, .bool false, .int .i64 0, .int .i64 0, .int .i64 0, .int .i64 0, .bool false, .int .i64 0, .bool false, .bool false, .bool false, .bool false, .int .i64 0, .int .i64 0, .int .i64 0, .int .i64 0]
theorem CrAt.new (w : World) : CrAt (w.alloc (.cells crowd0 56)) w.heap.size (fun _ => h0) (fun _ => false) (fun _ => 0) := by
  refine ⟨crowd0, heap_alloc_new _ _, rfl, fun k hk => ?_⟩
  have : k = 0 ∨ k = 1 ∨ k = 2 ∨ k = 3 := by omega
  rcases this with rfl | rfl | rfl | rfl <;> exact ⟨⟨rfl, rfl, rfl, rfl, rfl⟩, rfl, rfl⟩

/-- In a step: the map's own box (q), the crowd (qc), the memory. -/
structure StAt (w : World) (q qc B b : Nat) (vw : Value) (s : MS) (hs : Nat → HD) (os : Nat → Bool) (ns : Nat → Int) (W : World) : Prop where
  map : MapAt 26 W q mp4
  mem : Mem W B b vw s
  cr : CrAt W qc hs os ns
  fr : ¬ MemS b vw qc
  old : ∀ k, MemS b vw k → k < w.heap.size
  q0 : w.heap.size ≤ q
  c0 : qc < w.heap.size
  wrote : Wrote (fun j => MemS b vw j ∨ j = qc) w W
section
variable {w : World} {q qc B b : Nat} {vw : Value} {s s' : MS} {hs : Nat → HD} {os : Nat → Bool} {ns : Nat → Int} {W W' : World}
theorem StAt.later (k : StAt w q qc B b vw s hs os ns W) (h : Below W.heap.size W W') : StAt w q qc B b vw s hs os ns W' :=
  ⟨k.map.below h, k.mem.kept (Wrote.of_below h (fun _ => False)) (fun _ _ h => h), k.cr.below h, k.fr, k.old, k.q0, k.c0, k.wrote.trans (Wrote.of_below h _)⟩
theorem StAt.one (k : StAt w q qc B b vw s hs os ns W) (hm : Mem W' B b vw s') (hw : Wrote (MemS b vw) W W') : StAt w q qc B b vw s' hs os ns W' :=
  ⟨(hw.block q k.map.lt fun h => by have := k.old q h; have := k.q0; omega).trans k.map, hm, k.cr.kept hw k.fr, k.fr, k.old, k.q0, k.c0, k.wrote.trans (hw.mono fun _ _ h => .inl h)⟩
theorem StAt.cset (k : StAt w q qc B b vw s hs os ns W) {hs' : Nat → HD} {os' : Nat → Bool} {ns' : Nat → Int} (hc : CrAt W' qc hs' os' ns') (hw : Wrote (fun j => j = qc) W W') : StAt w q qc B b vw s hs' os' ns' W' :=
  ⟨(hw.block q k.map.lt fun e => by have := k.q0; have := k.c0; omega).trans k.map, k.mem.kept hw (fun j hj e => k.fr (e ▸ hj)), hc, k.fr, k.old, k.q0, k.c0, k.wrote.trans (hw.mono fun _ _ h => .inr h)⟩
theorem StAt.setH (k : StAt w q qc B b vw s hs os ns W) {i : Nat} (hi : i < 4) (g : HD) :
    StAt w q qc B b vw s (upd hs i g) os ns (((((W.setCell ⟨qc, i * 5, none⟩ (.int .i64 g.t)).setCell ⟨qc, i * 5 + 1, none⟩ (.int .i64 g.l)).setCell ⟨qc, i * 5 + 2, none⟩ (.int .i64 g.s)).setCell ⟨qc, i * 5 + 3, none⟩ (.bool g.rd)).setCell ⟨qc, i * 5 + 4, none⟩ (.int .i64 g.x)) :=
  k.cset (k.cr.setH hi g) ((Wrote.refl (fun j => j = qc) W).setAt5 (q := qc) (fun _ => rfl) _ _ _ _ _)
theorem StAt.setO (k : StAt w q qc B b vw s hs os ns W) {i : Nat} (hi : i < 4) (v : Bool) : StAt w q qc B b vw s hs (updV os i v) ns (W.setCell ⟨qc, 20 + i, none⟩ (.bool v)) :=
  k.cset (k.cr.setO hi v) ((Wrote.refl (fun j => j = qc) W).setCell (p := ⟨qc, 20 + i, none⟩) (fun _ => rfl) _)
theorem StAt.setN (k : StAt w q qc B b vw s hs os ns W) {i : Nat} (hi : i < 4) (v : Int) : StAt w q qc B b vw s hs os (updV ns i v) (W.setCell ⟨qc, 24 + i, none⟩ (.int .i64 v)) :=
  k.cset (k.cr.setN hi v) ((Wrote.refl (fun j => j = qc) W).setCell (p := ⟨qc, 24 + i, none⟩) (fun _ => rfl) _)
theorem StAt.cells (h : StAt w q qc B b vw s hs os ns W) {k : Nat} (hk : k < 4) : McCells q qc k (hs k) W := by
  obtain ⟨m0, m1, m2, m3, m4, _⟩ := h.map.facts
  obtain ⟨e0, e1, e2, e3, e4, _⟩ := h.cr.facts hk
  exact ⟨m0, m1, m2, m3, m4, e0, e1, e2, e3, e4⟩
theorem StAt.satCells {k : Nat} (x : Sat (fun W => ∃ s, StAt w q qc B b vw s hs os ns W)) (hk : k < 4) : McCells q qc k (hs k) x.v := by
  obtain ⟨v, p⟩ := x
  obtain ⟨s1, h⟩ := p
  exact h.cells hk
/-- The stages of a step: the call (10), the store (14). -/
def StD (w : World) (q qc B b : Nat) (vw : Value) (s s' : MS) (hs : Nat → HD) (k : Nat) (g : HD) (os : Nat → Bool) (ns : Nat → Int) (L : Nat → Bool) (W : World) : Prop :=
  StAt w q qc B b vw (bif L 10 then s' else s) (bif L 14 then upd hs k g else hs) os ns W
variable {k : Nat} {g : HD} {L : Nat → Bool}
theorem StD.start (hL : ∀ j, L j = false) (h : StAt w q qc B b vw s hs os ns W) : StD w q qc B b vw s s' hs k g os ns L W.drew := by
  unfold StD; rw [hL 10, hL 14]; exact h.later (bdrew (bid W))
theorem StD.reads (h : StD w q qc B b vw s s' hs k g os ns L W) (h14 : L 14 = false) : ∃ s, StAt w q qc B b vw s hs os ns W := by
  unfold StD at h; rw [h14] at h; exact ⟨_, h⟩
theorem StD.at10 (h : StD w q qc B b vw s s' hs k g os ns L W) (hL : L 10 = false) : StAt w q qc B b vw s (bif L 14 then upd hs k g else hs) os ns W := by
  unfold StD at h; rw [hL] at h; exact h
theorem StD.at14 (h : StD w q qc B b vw s s' hs k g os ns L W) (hL : L 14 = false) : StAt w q qc B b vw (bif L 10 then s' else s) hs os ns W := by
  unfold StD at h; rw [hL] at h; exact h
theorem StD.end_ (hall : ∀ j, j < 15 → L j = true) (h : StD w q qc B b vw s s' hs k g os ns L W) : StAt w q qc B b vw s' (upd hs k g) os ns W := by
  unfold StD at h; rw [hall 10 (by decide), hall 14 (by decide)] at h; exact h
end

end Go.Proofs.Ytmcmajndcbobpaa
