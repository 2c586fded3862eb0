/-
  What stands where while three bumps go on: the map, the memories, the bumps, what stood at their begins, two lists of one's own.
-/
import Derived.Test.YtkfajeimfpbfdaaBpI
import Derived.Test.YtkfajeimfpbfdaaJl
namespace Go.Proofs.Ytkfajeimfpbfdaa
open Go.RowKit
attribute [local go_sem] Later.cell Later.frozen

def tagA (N t : Nat) (f : Nat → Nat) : Nat → Nat := fun j => if N ≤ j then t else f j
theorem tagA_old {N t j : Nat} {f : Nat → Nat} (h : j < N) : tagA N t f j = f j := by unfold tagA; rw [if_neg (by omega)]
theorem tagA_new {N t j : Nat} {f : Nat → Nat} (h : N ≤ j) : tagA N t f j = t := by unfold tagA; rw [if_pos h]

structure BpAt (w : World) (q b : Nat) (vw : Value) (c : Nat) (vr : Value) (s t : MS) (qb : Nat) (bs : Nat → BD) (qf : Nat) (fs : Nat → Int) (vo vb : Value) (out beg : List Int) (W : World) : Prop where
  fr : Fr w q b vw c vr s t W
  bb : BumpsAt W qb bs
  ff : Thr W qf fs
  outs : JL W w.heap.size vo out
  begs : JL W w.heap.size vb beg
  tag : ∃ f : Nat → Nat, f q = 0 ∧ f qb = 1 ∧ f qf = 2 ∧ (∀ k, vo.ownBlock = some k → f k = 3) ∧ (∀ k, vb.ownBlock = some k → f k = 4) ∧ (∀ k, PairS b vw c vr k → f k = 5)
  z0 : w.heap.size ≤ qb ∧ w.heap.size ≤ qf
section
variable {w : World} {q b : Nat} {vw : Value} {c : Nat} {vr : Value} {s t : MS} {qb : Nat} {bs : Nat → BD} {qf : Nat} {fs : Nat → Int} {vo vb : Value} {out beg : List Int} {W W' : World}
theorem BpAt.mem (k : BpAt w q b vw c vr s t qb bs qf fs vo vb out beg W) : Mem W w.heap.size b vw s := k.fr.mem
theorem BpAt.old (k : BpAt w q b vw c vr s t qb bs qf fs vo vb out beg W) : (∀ j, vo.ownBlock = some j → w.heap.size ≤ j ∧ j < W.heap.size) ∧ (∀ j, vb.ownBlock = some j → w.heap.size ≤ j ∧ j < W.heap.size) := ⟨fun _ h => k.outs.old h, fun _ h => k.begs.old h⟩
theorem BpAt.later (k : BpAt w q b vw c vr s t qb bs qf fs vo vb out beg W) (h : Below W.heap.size W W') : BpAt w q b vw c vr s t qb bs qf fs vo vb out beg W' :=
  ⟨k.fr.later h, k.bb.below h, k.ff.below h, k.outs.kept (Wrote.of_below h (fun _ => False)) (fun _ _ h => h), k.begs.kept (Wrote.of_below h (fun _ => False)) (fun _ _ h => h), k.tag, k.z0⟩
theorem BpAt.one {s' : MS} (k : BpAt w q b vw c vr s t qb bs qf fs vo vb out beg W) (hm : Mem W' w.heap.size b vw s') (hw : Wrote (MemS b vw) W W') : BpAt w q b vw c vr s' t qb bs qf fs vo vb out beg W' := by
  obtain ⟨f, f0, f1, f2, f3, f4, f5⟩ := k.tag
  have h5 : ∀ j, MemS b vw j → f j = 5 := fun j h => f5 j (.inl h)
  exact ⟨k.fr.one hm hw, k.bb.kept hw fun h => by have := h5 _ h; omega, k.ff.kept hw fun h => by have := h5 _ h; omega, k.outs.kept hw fun j h1 h2 => by have := f3 j h1; have := h5 j h2; omega, k.begs.kept hw fun j h1 h2 => by have := f4 j h1; have := h5 j h2; omega, k.tag, k.z0⟩
theorem BpAt.setB (k : BpAt w q b vw c vr s t qb bs qf fs vo vb out beg W) {i : Nat} (hi : i < 3) (g : BD) :
    BpAt w q b vw c vr s t qb (updA bs i g) qf fs vo vb out beg ((((W.setCell ⟨qb, i * 4, none⟩ (.int .i64 g.k)).setCell ⟨qb, i * 4 + 1, none⟩ (.int .i64 g.s)).setCell ⟨qb, i * 4 + 2, none⟩ (.int .i64 g.x)).setCell ⟨qb, i * 4 + 3, none⟩ (.int .i64 g.p)) := by
  obtain ⟨f, f0, f1, f2, f3, f4, f5⟩ := k.tag
  have z := k.z0
  have hw := (Wrote.refl (fun j => j = qb) W).setB4 (q := qb) (o0 := i * 4) (o1 := i * 4 + 1) (o2 := i * 4 + 2) (o3 := i * 4 + 3) (fun _ => rfl) (.int .i64 g.k) (.int .i64 g.s) (.int .i64 g.x) (.int .i64 g.p)
  exact ⟨k.fr.away hw (fun j e => by omega) (fun e => by rw [e] at f0; omega) (fun j e h => by have := f5 j h; rw [e] at this; omega), k.bb.set hi g, k.ff.kept hw fun e => by rw [e] at f2; omega,
    k.outs.kept hw fun j h e => by have := f3 j h; rw [e] at this; omega, k.begs.kept hw fun j h e => by have := f4 j h; rw [e] at this; omega, k.tag, k.z0⟩
theorem BpAt.setF (k : BpAt w q b vw c vr s t qb bs qf fs vo vb out beg W) {i : Nat} (hi : i < 3) (v : Int) : BpAt w q b vw c vr s t qb bs qf (updA fs i v) vo vb out beg (W.setCell ⟨qf, i, none⟩ (.int .i64 v)) := by
  obtain ⟨f, f0, f1, f2, f3, f4, f5⟩ := k.tag
  have z := k.z0
  have hw : Wrote (fun j => j = qf) W (W.setCell ⟨qf, i, none⟩ (.int .i64 v)) := (Wrote.refl (fun j => j = qf) W).setCell (p := ⟨qf, i, none⟩) (fun _ => rfl) _
  exact ⟨k.fr.away hw (fun j e => by omega) (fun e => by rw [e] at f0; omega) (fun j e h => by have := f5 j h; rw [e] at this; omega), k.bb.kept hw fun e => by rw [e] at f1; omega, k.ff.set hi v,
    k.outs.kept hw fun j h e => by have := f3 j h; rw [e] at this; omega, k.begs.kept hw fun j h e => by have := f4 j h; rw [e] at this; omega, k.tag, k.z0⟩
theorem BpAt.outUp {vo' : Value} {out' : List Int} (k : BpAt w q b vw c vr s t qb bs qf fs vo vb out beg W) (hm : JL W' w.heap.size vo' out') (hw : Wrote (fun j => vo.ownBlock = some j) W W') (ho : vo'.ownBlock = vo.ownBlock ∨ vo'.ownBlock = some W.heap.size) : BpAt w q b vw c vr s t qb bs qf fs vo' vb out' beg W' := by
  obtain ⟨f, f0, f1, f2, f3, f4, f5⟩ := k.tag
  obtain ⟨lo, lb⟩ := k.old
  have l0 := k.fr.map.lt
  have l1 := k.bb.lt
  have l2 := k.ff.lt
  refine ⟨k.fr.away hw (fun j e => (lo j e).1) (fun e => by have := f3 _ e; omega) (fun j e h => by have := f3 j e; have := f5 j h; omega), k.bb.kept hw fun e => by have := f3 _ e; omega, k.ff.kept hw fun e => by have := f3 _ e; omega, hm,
    k.begs.kept hw fun j h1 h2 => by have := f4 j h1; have := f3 j h2; omega, ⟨tagA W.heap.size 3 f, by rw [tagA_old (by omega)]; exact f0, by rw [tagA_old (by omega)]; exact f1, by rw [tagA_old (by omega)]; exact f2, fun j h => ?_, fun j h => by rw [tagA_old (lb j h).2]; exact f4 j h, fun j h => by rw [tagA_old (k.fr.pair.young j h)]; exact f5 j h⟩, k.z0⟩
  rcases ho with ho | ho
  · rw [ho] at h; rw [tagA_old (lo j h).2]; exact f3 j h
  · rw [ho] at h; cases h; rw [tagA_new (Nat.le_refl _)]
theorem BpAt.begUp {vb' : Value} {beg' : List Int} (k : BpAt w q b vw c vr s t qb bs qf fs vo vb out beg W) (hm : JL W' w.heap.size vb' beg') (hw : Wrote (fun j => vb.ownBlock = some j) W W') (ho : vb'.ownBlock = vb.ownBlock ∨ vb'.ownBlock = some W.heap.size) : BpAt w q b vw c vr s t qb bs qf fs vo vb' out beg' W' := by
  obtain ⟨f, f0, f1, f2, f3, f4, f5⟩ := k.tag
  obtain ⟨lo, lb⟩ := k.old
  have l0 := k.fr.map.lt
  have l1 := k.bb.lt
  have l2 := k.ff.lt
  refine ⟨k.fr.away hw (fun j e => (lb j e).1) (fun e => by have := f4 _ e; omega) (fun j e h => by have := f4 j e; have := f5 j h; omega), k.bb.kept hw fun e => by have := f4 _ e; omega, k.ff.kept hw fun e => by have := f4 _ e; omega,
    k.outs.kept hw fun j h1 h2 => by have := f3 j h1; have := f4 j h2; omega, hm, ⟨tagA W.heap.size 4 f, by rw [tagA_old (by omega)]; exact f0, by rw [tagA_old (by omega)]; exact f1, by rw [tagA_old (by omega)]; exact f2, fun j h => by rw [tagA_old (lo j h).2]; exact f3 j h, fun j h => ?_, fun j h => by rw [tagA_old (k.fr.pair.young j h)]; exact f5 j h⟩, k.z0⟩
  rcases ho with ho | ho
  · rw [ho] at h; rw [tagA_old (lb j h).2]; exact f4 j h
  · rw [ho] at h; cases h; rw [tagA_new (Nat.le_refl _)]
/-- What a statement that reads one of the bumps reads. -/
def BpCells (q qb i : Nat) (g : BD) (W : World) : Prop :=
  W.cell? ⟨q, 0, none⟩ = some (.int .i64 2) ∧ W.cell? ⟨q, 1, none⟩ = some (.int .i64 2) ∧ W.cell? ⟨q, 2, none⟩ = some (.int .i64 4) ∧ W.cell? ⟨q, 3, none⟩ = some (.int .i64 0) ∧ W.cell? ⟨q, 4, none⟩ = some (.int .i64 2) ∧
    W.cell? ⟨qb, i * 4, none⟩ = some (.int .i64 g.k) ∧ W.cell? ⟨qb, i * 4 + 1, none⟩ = some (.int .i64 g.s) ∧ W.cell? ⟨qb, i * 4 + 2, none⟩ = some (.int .i64 g.x) ∧ W.cell? ⟨qb, i * 4 + 3, none⟩ = some (.int .i64 g.p)
theorem BpAt.cells (k : BpAt w q b vw c vr s t qb bs qf fs vo vb out beg W) {i : Nat} (hi : i < 3) : BpCells q qb i (bs i) W := by
  obtain ⟨m0, m1, m2, m3, m4⟩ := k.fr.cells
  obtain ⟨e0, e1, e2, e3, _⟩ := k.bb.facts hi
  exact ⟨m0, m1, m2, m3, m4, e0, e1, e2, e3⟩
/-- The stages of a step: the call (6), the store (8). -/
def BpD (w : World) (q b : Nat) (vw : Value) (c : Nat) (vr : Value) (s s' t : MS) (qb : Nat) (bs : Nat → BD) (i : Nat) (g : BD) (qf : Nat) (fs : Nat → Int) (vo vb : Value) (out beg : List Int) (L : Nat → Bool) (W : World) : Prop :=
  BpAt w q b vw c vr (bif L 6 then s' else s) t qb (bif L 8 then updA bs i g else bs) qf fs vo vb out beg W
variable {s' : MS} {i : Nat} {g : BD} {L : Nat → Bool}
theorem BpD.start (hL : ∀ j, L j = false) (h : BpAt w q b vw c vr s t qb bs qf fs vo vb out beg W) : BpD w q b vw c vr s s' t qb bs i g qf fs vo vb out beg L W.drew := by
  unfold BpD; rw [hL 6, hL 8]; exact h.later (bdrew (bid W))
theorem BpD.reads (h : BpD w q b vw c vr s s' t qb bs i g qf fs vo vb out beg L W) (h8 : L 8 = false) (hi : i < 3) : BpCells q qb i (bs i) W := by
  unfold BpD at h; rw [h8] at h; exact h.cells hi
theorem BpD.at6 (h : BpD w q b vw c vr s s' t qb bs i g qf fs vo vb out beg L W) (h6 : L 6 = false) : BpAt w q b vw c vr s t qb (bif L 8 then updA bs i g else bs) qf fs vo vb out beg W := by
  unfold BpD at h; rw [h6] at h; exact h
theorem BpD.one6 (h : BpAt w q b vw c vr s' t qb (bif L 8 then updA bs i g else bs) qf fs vo vb out beg W) : BpD w q b vw c vr s s' t qb bs i g qf fs vo vb out beg (bump L 6) W := by
  unfold BpD; rw [bump_at, bump_ne L (by decide : (8 : Nat) ≠ 6)]; exact h
theorem BpD.at8 (h : BpD w q b vw c vr s s' t qb bs i g qf fs vo vb out beg L W) (h8 : L 8 = false) : BpAt w q b vw c vr (bif L 6 then s' else s) t qb bs qf fs vo vb out beg W := by
  unfold BpD at h; rw [h8] at h; exact h
theorem BpD.put8 (h : BpD w q b vw c vr s s' t qb bs i g qf fs vo vb out beg L W) (h8 : L 8 = false) (hi : i < 3) :
    BpD w q b vw c vr s s' t qb bs i g qf fs vo vb out beg (bump L 8) ((((W.setCell ⟨qb, i * 4, none⟩ (.int .i64 g.k)).setCell ⟨qb, i * 4 + 1, none⟩ (.int .i64 g.s)).setCell ⟨qb, i * 4 + 2, none⟩ (.int .i64 g.x)).setCell ⟨qb, i * 4 + 3, none⟩ (.int .i64 g.p)) := by
  have h2 := (h.at8 h8).setB hi g
  unfold BpD; rw [bump_at, bump_ne L (by decide : (6 : Nat) ≠ 8)]; exact h2
theorem BpD.end_ (hall : ∀ j, j < 9 → L j = true) (h : BpD w q b vw c vr s s' t qb bs i g qf fs vo vb out beg L W) : BpAt w q b vw c vr s' t qb (updA bs i g) qf fs vo vb out beg W := by
  unfold BpD at h; rw [hall 6 (by decide), hall 8 (by decide)] at h; exact h
end

/-- A literal of one int64 that has just been laid, apart from both lists. -/
def One (vo vb : Value) (W : World) : Option (Nat × Int) → Prop
  | none => True
  | some x => W.cell? ⟨x.1, 0, none⟩ = some (.int .i64 x.2) ∧ vo.ownBlock ≠ some x.1 ∧ vb.ownBlock ≠ some x.1
theorem One.lt {vo vb : Value} {W : World} {x : Nat × Int} (h : One vo vb W (some x)) : x.1 < W.heap.size := World.block_lt_of_cell? W _ h.1
theorem One.below {vo vb : Value} {W W' : World} {o : Option (Nat × Int)} (h : One vo vb W o) (hb : Below W.heap.size W W') : One vo vb W' o := by
  cases o with
  | none => trivial
  | some x => exact ⟨hb.cell (p := ⟨x.1, 0, none⟩) (One.lt h) |>.trans h.1, h.2⟩
/-- The statement that appends to both lists: what is laid, and what is appended. -/
structure ApAt (w : World) (q b : Nat) (vw : Value) (c : Nat) (vr : Value) (s t : MS) (qb : Nat) (bs : Nat → BD) (qf : Nat) (fs : Nat → Int) (vo vb : Value) (out beg : List Int) (oa ob : Option (Nat × Int)) (W : World) : Prop where
  bp : BpAt w q b vw c vr s t qb bs qf fs vo vb out beg W
  a : One vo vb W oa
  b : One vo vb W ob
section
variable {w : World} {q b : Nat} {vw : Value} {c : Nat} {vr : Value} {s t : MS} {qb : Nat} {bs : Nat → BD} {qf : Nat} {fs : Nat → Int} {vo vb : Value} {out beg : List Int} {oa ob : Option (Nat × Int)} {W W' : World}
theorem ApAt.new (k : ApAt w q b vw c vr s t qb bs qf fs vo vb out beg oa ob W) (x : Int) : One vo vb (W.alloc (.cells #[.int .i64 x] 2)) (some (W.heap.size, x)) := by
  obtain ⟨lo, lb⟩ := k.bp.old
  exact ⟨cell_of_blk (heap_alloc_new W _) 0, fun e => by have := (lo _ e).2; omega, fun e => by have := (lb _ e).2; omega⟩
theorem ApAt.newA (k : ApAt w q b vw c vr s t qb bs qf fs vo vb out beg none ob W) (x : Int) : ApAt w q b vw c vr s t qb bs qf fs vo vb out beg (some (W.heap.size, x)) ob (W.alloc (.cells #[.int .i64 x] 2)) :=
  ⟨k.bp.later (bnew (bid W) _), k.new x, k.b.below (bnew (bid W) _)⟩
theorem ApAt.newB (k : ApAt w q b vw c vr s t qb bs qf fs vo vb out beg oa none W) (x : Int) : ApAt w q b vw c vr s t qb bs qf fs vo vb out beg oa (some (W.heap.size, x)) (W.alloc (.cells #[.int .i64 x] 2)) :=
  ⟨k.bp.later (bnew (bid W) _), k.a.below (bnew (bid W) _), k.new x⟩
theorem One.outUp {vo' : Value} {o : Option (Nat × Int)} (h : One vo vb W o) (hw : Wrote (fun j => vo.ownBlock = some j) W W') (ho : vo'.ownBlock = vo.ownBlock ∨ vo'.ownBlock = some W.heap.size) : One vo' vb W' o := by
  cases o with
  | none => trivial
  | some x =>
    have hl := One.lt h
    refine ⟨hw.cell (p := ⟨x.1, 0, none⟩) h.2.1 h.1, fun e => ?_, h.2.2⟩
    rcases ho with ho | ho
    · rw [ho] at e; exact h.2.1 e
    · rw [ho] at e; have := Option.some.inj e; omega
theorem One.begUp {vb' : Value} {o : Option (Nat × Int)} (h : One vo vb W o) (hw : Wrote (fun j => vb.ownBlock = some j) W W') (ho : vb'.ownBlock = vb.ownBlock ∨ vb'.ownBlock = some W.heap.size) : One vo vb' W' o := by
  cases o with
  | none => trivial
  | some x =>
    have hl := One.lt h
    refine ⟨hw.cell (p := ⟨x.1, 0, none⟩) h.2.2 h.1, h.2.1, fun e => ?_⟩
    rcases ho with ho | ho
    · rw [ho] at e; exact h.2.2 e
    · rw [ho] at e; have := Option.some.inj e; omega
theorem ApAt.appA {vo' : Value} {x : Nat × Int} (k : ApAt w q b vw c vr s t qb bs qf fs vo vb out beg (some x) ob W) (hm : JL W' w.heap.size vo' (out ++ [x.2])) (hw : Wrote (fun j => vo.ownBlock = some j) W W') (ho : vo'.ownBlock = vo.ownBlock ∨ vo'.ownBlock = some W.heap.size) :
    ApAt w q b vw c vr s t qb bs qf fs vo' vb (out ++ [x.2]) beg none ob W' := ⟨k.bp.outUp hm hw ho, trivial, k.b.outUp hw ho⟩
theorem ApAt.appB {vb' : Value} {x : Nat × Int} (k : ApAt w q b vw c vr s t qb bs qf fs vo vb out beg oa (some x) W) (hm : JL W' w.heap.size vb' (beg ++ [x.2])) (hw : Wrote (fun j => vb.ownBlock = some j) W W') (ho : vb'.ownBlock = vb.ownBlock ∨ vb'.ownBlock = some W.heap.size) :
    ApAt w q b vw c vr s t qb bs qf fs vo vb' out (beg ++ [x.2]) oa none W' := ⟨k.bp.begUp hm hw ho, k.a.begUp hw ho, trivial⟩
theorem One.news {x : Nat × Int} (h : One vo vb W (some x)) : ∀ j, j < 1 → W.cell? (Addr.add ⟨x.1, 0, none⟩ j) = some (.int .i64 (([x.2] : List Int).getD j 0)) := fun j hj => by
  obtain rfl : j = 0 := by omega
  rw [add_at]
  exact h.1
end
/-- What all ways come to, proved once. -/
theorem with_tail4 {goal : Prop} (T : Nat → Nat → Value → Value → World → Prop) (R : Value → Value → World → Prop) (h1 : (∀ ga gb va vb Z, R va vb Z → T ga gb va vb Z) → goal) (h2 : ∀ ga gb va vb Z, R va vb Z → T ga gb va vb Z) : goal := h1 h2

end Go.Proofs.Ytkfajeimfpbfdaa
