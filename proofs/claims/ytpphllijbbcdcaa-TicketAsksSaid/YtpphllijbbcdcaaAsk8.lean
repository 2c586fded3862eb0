/-
  TicketAsks: what stands where, and the plain facts.
-/
import Derived.Test.YtpphllijbbcdcaaTktP
import Derived.Test.YtpphllijbbcdcaaStage
namespace Go.Proofs.Ytpphllijbbcdcaa
open Go.RowKit
attribute [local go_sem] Later.cell Later.frozen

/-- Three words of one's own. -/
def ThreeW (w : World) (q : Nat) (x0 x1 x2 : Int) : Prop := w.heap[q]? = some (.cells #[.int .i64 x0, .int .i64 x1, .int .i64 x2] 22 (0, 0))

theorem ThreeW.at {w : World} {q : Nat} {x0 x1 x2 : Int} (h : ThreeW w q x0 x1 x2) {k : Nat} (hk : k < 3) : w.cell? ⟨q, k, none⟩ = some (.int .i64 ([x0, x1, x2].getD k 0)) ∧ (∀ i, w.frozen? ⟨q, i, none⟩ = false) := by
  refine ⟨(cell_of_blk h k).trans ?_, fun i => frozen_of_blk h i⟩
  have : k = 0 ∨ k = 1 ∨ k = 2 := by omega
  rcases this with rfl | rfl | rfl <;> rfl

structure AskAt (w : World) (x0 x1 x2 : Int) (h : HD) (q b : Nat) (vw : Value) (c : Nat) (vr : Value) (s t : MS) (W : World) : Prop where
  wd : ThreeW W w.heap.size x0 x1 x2
  box : HandAt W (w.heap.size + 1) h
  map : MapAt 26 W q mp4
  pair : Pair W w.heap.size b vw c vr s t
  fr : ∀ k, PairS b vw c vr k → k ≠ q ∧ k ≠ w.heap.size ∧ k ≠ w.heap.size + 1
  q0 : w.heap.size + 1 < q
  below : Below w.heap.size w W

section
variable {w : World} {x0 x1 x2 : Int} {h : HD} {q b : Nat} {vw : Value} {c : Nat} {vr : Value} {s t : MS} {W W' : World}
theorem AskAt.later (k : AskAt w x0 x1 x2 h q b vw c vr s t W) (hb : Below W.heap.size W W') : AskAt w x0 x1 x2 h q b vw c vr s t W' :=
  ⟨(hb.block _ (lt_of_block k.wd)).trans k.wd, k.box.below hb, k.map.below hb, k.pair.below hb, k.fr, k.q0, bthen k.below hb⟩
theorem AskAt.one {s' : MS} (k : AskAt w x0 x1 x2 h q b vw c vr s t W) (hm : Mem W' w.heap.size b vw s') (hw : Wrote (MemS b vw) W W') : AskAt w x0 x1 x2 h q b vw c vr s' t W' :=
  ⟨(hw.block _ (lt_of_block k.wd) fun h => (k.fr _ (.inl h)).2.1 rfl).trans k.wd, k.box.kept hw fun h => (k.fr _ (.inl h)).2.2 rfl, (hw.block q k.map.lt fun h => (k.fr q (.inl h)).1 rfl).trans k.map, k.pair.one hm hw, k.fr, k.q0, k.below.trans (hw.below k.below.size k.pair.mem.old)⟩
theorem AskAt.two {t' : MS} (k : AskAt w x0 x1 x2 h q b vw c vr s t W) (hm : Ref W' w.heap.size c vr t') (hw : Wrote (MemS c vr) W W') : AskAt w x0 x1 x2 h q b vw c vr s t' W' :=
  ⟨(hw.block _ (lt_of_block k.wd) fun h => (k.fr _ (.inr h)).2.1 rfl).trans k.wd, k.box.kept hw fun h => (k.fr _ (.inr h)).2.2 rfl, (hw.block q k.map.lt fun h => (k.fr q (.inr h)).1 rfl).trans k.map, k.pair.two hm hw, k.fr, k.q0, k.below.trans (hw.below k.below.size k.pair.ref.old)⟩
theorem AskAt.setBox {h' : HD} (k : AskAt w x0 x1 x2 h q b vw c vr s t W) (hb : HandAt W' (w.heap.size + 1) h') (hw : Wrote (fun j => j = w.heap.size + 1) W W') : AskAt w x0 x1 x2 h' q b vw c vr s t W' :=
  ⟨(hw.block _ (lt_of_block k.wd) (by omega)).trans k.wd, hb, (hw.block q k.map.lt (by have := k.q0; omega)).trans k.map,
    ⟨k.pair.mem.kept hw fun j hj e => (k.fr j (.inl hj)).2.2 e, k.pair.ref.kept hw fun j hj e => (k.fr j (.inr hj)).2.2 e, k.pair.apart⟩, k.fr, k.q0, k.below.trans (hw.below k.below.size fun j hj e => by omega)⟩
theorem AskAt.setCell {h' : HD} (k : AskAt w x0 x1 x2 h q b vw c vr s t W) (i : Nat) (u : Value) (he : h'.cells = h.cells.setIfInBounds i u) : AskAt w x0 x1 x2 h' q b vw c vr s t (W.setCell ⟨w.heap.size + 1, i, none⟩ u) := by
  refine k.setBox ?_ ((Wrote.refl (fun j => j = w.heap.size + 1) W).setCell (p := ⟨w.heap.size + 1, i, none⟩) (fun _ => rfl) u)
  unfold HandAt
  rw [he]
  exact blk_setCell k.box i u
theorem AskAt.setX {ht hl hs hx : Int} {hr : Bool} (k : AskAt w x0 x1 x2 ⟨ht, hl, hs, hr, hx⟩ q b vw c vr s t W) (y : Int) : AskAt w x0 x1 x2 ⟨ht, hl, hs, hr, y⟩ q b vw c vr s t (W.setCell ⟨w.heap.size + 1, 4, none⟩ (.int .i64 y)) := k.setCell 4 _ rfl
/-- Both memories are others now, made behind all that stood. -/
theorem AskAt.anew {b' : Nat} {vw' : Value} {c' : Nat} {vr' : Value} {s' t' : MS} (k : AskAt w x0 x1 x2 h q b vw c vr s t W) (hp : Pair W' W.heap.size b' vw' c' vr' s' t') (hb : Below W.heap.size W W') : AskAt w x0 x1 x2 h q b' vw' c' vr' s' t' W' :=
  ⟨(k.later hb).wd, (k.later hb).box, (k.later hb).map, hp.mono k.below.size, fun j hj => by
    have h1 := hp.old j
    have h2 := k.map.lt
    have h3 := k.box.lt
    refine ⟨fun e => h1 (by omega) hj, fun e => h1 (by omega) hj, fun e => h1 (by omega) hj⟩, k.q0, bthen k.below hb⟩
end

/-- The world of such a walk under one name. -/
theorem rename_to {P : Program} {md : Region.Mode} {ops : Array Oper} {Q : Exit → Act → World → Prop} {S : World → Prop} {fuel : Nat} {listed : Array Bool} {a : Act} {w : World} (R : World → Prop) (hR : R w) (h : ∀ W, R W → wpAnyH P md ops Q S fuel listed a W) : wpAnyH P md ops Q S fuel listed a w := h w hR

/-- What all ways come to, proved once. -/
theorem with_tail {goal : Prop} (T : Nat → Nat → World → Prop) (R : Nat → Nat → World → Prop) (h1 : (∀ ga gb Z, R ga gb Z → T ga gb Z) → goal) (h2 : ∀ ga gb Z, R ga gb Z → T ga gb Z) : goal := h1 h2

/-- A hand of one's own, made behind all that stood. -/
def Own1 (q b : Nat) (vw : Value) (c : Nat) (vr : Value) (W : World) (g : HD) : Option Nat → Prop
  | none => True
  | some a => HandAt W a g ∧ q < a ∧ ∀ j, PairS b vw c vr j → j ≠ a
theorem Own1.later {q b : Nat} {vw : Value} {c : Nat} {vr : Value} {W W' : World} {g : HD} {o : Option Nat} (h : Own1 q b vw c vr W g o) (hb : Below W.heap.size W W') : Own1 q b vw c vr W' g o := by
  cases o with
  | none => trivial
  | some a => exact ⟨h.1.below hb, h.2⟩
theorem Own1.kept {q b : Nat} {vw : Value} {c : Nat} {vr : Value} {W W' : World} {g : HD} {o : Option Nat} {S : Nat → Prop} (h : Own1 q b vw c vr W g o) (hw : Wrote S W W') (hs : ∀ j, S j → PairS b vw c vr j) : Own1 q b vw c vr W' g o := by
  cases o with
  | none => trivial
  | some a => exact ⟨h.1.kept hw fun e => h.2.2 a (hs a e) rfl, h.2⟩
/-- The walk of a statement that lays two new hands. -/
structure MidAt (w : World) (x0 x1 x2 : Int) (h : HD) (q b : Nat) (vw : Value) (c : Nat) (vr : Value) (s t : MS) (oa ob : Option Nat) (W : World) : Prop where
  ask : AskAt w x0 x1 x2 h q b vw c vr s t W
  a : Own1 q b vw c vr W h0 oa
  b : Own1 q b vw c vr W h0 ob
  ne : ∀ x y, oa = some x → ob = some y → x ≠ y
section
variable {w : World} {x0 x1 x2 : Int} {h : HD} {q b : Nat} {vw : Value} {c : Nat} {vr : Value} {s t : MS} {oa ob : Option Nat} {W W' : World}
theorem MidAt.later (k : MidAt w x0 x1 x2 h q b vw c vr s t oa ob W) (hb : Below W.heap.size W W') : MidAt w x0 x1 x2 h q b vw c vr s t oa ob W' := ⟨k.ask.later hb, k.a.later hb, k.b.later hb, k.ne⟩
theorem MidAt.one {s' : MS} (k : MidAt w x0 x1 x2 h q b vw c vr s t oa ob W) (hm : Mem W' w.heap.size b vw s') (hw : Wrote (MemS b vw) W W') : MidAt w x0 x1 x2 h q b vw c vr s' t oa ob W' := ⟨k.ask.one hm hw, k.a.kept hw fun _ h => .inl h, k.b.kept hw fun _ h => .inl h, k.ne⟩
theorem MidAt.two {t' : MS} (k : MidAt w x0 x1 x2 h q b vw c vr s t oa ob W) (hm : Ref W' w.heap.size c vr t') (hw : Wrote (MemS c vr) W W') : MidAt w x0 x1 x2 h q b vw c vr s t' oa ob W' := ⟨k.ask.two hm hw, k.a.kept hw fun _ h => .inr h, k.b.kept hw fun _ h => .inr h, k.ne⟩
theorem Own1.new (k : AskAt w x0 x1 x2 h q b vw c vr s t W) (g : HD) : Own1 q b vw c vr (W.alloc (.cells g.cells 24)) g (some W.heap.size) :=
  ⟨HandAt.new W g, k.map.lt, fun j hj e => by have := k.pair.young j hj; omega⟩
theorem Own1.old {g : HD} {x : Nat} (h : Own1 q b vw c vr W g (some x)) : x < W.heap.size := h.1.lt
theorem MidAt.newA (k : MidAt w x0 x1 x2 h q b vw c vr s t none ob W) : MidAt w x0 x1 x2 h q b vw c vr s t (some W.heap.size) ob (W.alloc (.cells h0.cells 24)) := by
  refine ⟨k.ask.later (bnew (bid W) _), Own1.new k.ask h0, k.b.later (bnew (bid W) _), fun x y hx hy => ?_⟩
  subst hy
  cases hx
  have := Own1.old k.b
  omega
theorem MidAt.newB (k : MidAt w x0 x1 x2 h q b vw c vr s t oa none W) : MidAt w x0 x1 x2 h q b vw c vr s t oa (some W.heap.size) (W.alloc (.cells h0.cells 24)) := by
  refine ⟨k.ask.later (bnew (bid W) _), k.a.later (bnew (bid W) _), Own1.new k.ask h0, fun x y hx hy => ?_⟩
  subst hx
  cases hy
  have := Own1.old k.a
  omega
/-- What the loads of such a statement read. -/
theorem AskAt.reads (k : AskAt w x0 x1 x2 h q b vw c vr s t W) :
    W.cell? ⟨q, 0, none⟩ = some (.int .i64 2) ∧ W.cell? ⟨q, 1, none⟩ = some (.int .i64 2) ∧ W.cell? ⟨q, 2, none⟩ = some (.int .i64 4) ∧ W.cell? ⟨q, 3, none⟩ = some (.int .i64 0) ∧ W.cell? ⟨q, 4, none⟩ = some (.int .i64 2) ∧
      W.cell? ⟨w.heap.size + 1, 0, none⟩ = some (.int .i64 h.t) ∧ W.cell? ⟨w.heap.size + 1, 1, none⟩ = some (.int .i64 h.l) ∧ W.cell? ⟨w.heap.size + 1, 2, none⟩ = some (.int .i64 h.s) ∧ W.cell? ⟨w.heap.size + 1, 3, none⟩ = some (.bool h.rd) ∧ W.cell? ⟨w.heap.size + 1, 4, none⟩ = some (.int .i64 h.x) := by
  obtain ⟨m0, m1, m2, m3, m4, _⟩ := k.map.facts
  obtain ⟨e0, e1, e2, e3, e4, _⟩ := k.box.facts
  exact ⟨m0, m1, m2, m3, m4, e0, e1, e2, e3, e4⟩
end

/-- Both answers stand. -/
structure EndAt (w : World) (x0 x1 x2 : Int) (h : HD) (q b : Nat) (vw : Value) (c : Nat) (vr : Value) (s t : MS) (qa qb : Nat) (g k : HD) (W : World) : Prop where
  ask : AskAt w x0 x1 x2 h q b vw c vr s t W
  oa : HandAt W qa g
  ob : HandAt W qb k
  fr : ∀ j, PairS b vw c vr j → j ≠ qa ∧ j ≠ qb
  ne : qa ≠ qb ∧ q < qa ∧ q < qb
section
variable {w : World} {x0 x1 x2 : Int} {h : HD} {q b : Nat} {vw : Value} {c : Nat} {vr : Value} {s t : MS} {qa qb : Nat} {g k : HD} {W W' : World}
theorem MidAt.fin (m : MidAt w x0 x1 x2 h q b vw c vr s t (some qa) (some qb) W) : EndAt w x0 x1 x2 h q b vw c vr s t qa qb h0 h0 W :=
  ⟨m.ask, m.a.1, m.b.1, fun j hj => ⟨m.a.2.2 j hj, m.b.2.2 j hj⟩, m.ne _ _ rfl rfl, m.a.2.1, m.b.2.1⟩
theorem AskAt.wrote {S : Nat → Prop} (k : AskAt w x0 x1 x2 h q b vw c vr s t W) (hw : Wrote S W W') (hs : ∀ j, S j → q < j) (hf : ∀ j, PairS b vw c vr j → ¬ S j) : AskAt w x0 x1 x2 h q b vw c vr s t W' := by
  have hq := k.q0
  exact ⟨(hw.block _ (lt_of_block k.wd) fun e => by have := hs _ e; omega).trans k.wd, k.box.kept hw fun e => by have := hs _ e; omega, (hw.block q k.map.lt fun e => by have := hs _ e; omega).trans k.map,
    ⟨k.pair.mem.kept hw fun j hj e => hf j (.inl hj) e, k.pair.ref.kept hw fun j hj e => hf j (.inr hj) e, k.pair.apart⟩, k.fr, k.q0, k.below.trans (hw.below k.below.size fun j hj e => by have := hs _ e; omega)⟩
theorem EndAt.later (m : EndAt w x0 x1 x2 h q b vw c vr s t qa qb g k W) (hb : Below W.heap.size W W') : EndAt w x0 x1 x2 h q b vw c vr s t qa qb g k W' := ⟨m.ask.later hb, m.oa.below hb, m.ob.below hb, m.fr, m.ne⟩
theorem EndAt.one {s' : MS} (m : EndAt w x0 x1 x2 h q b vw c vr s t qa qb g k W) (hm : Mem W' w.heap.size b vw s') (hw : Wrote (MemS b vw) W W') : EndAt w x0 x1 x2 h q b vw c vr s' t qa qb g k W' :=
  ⟨m.ask.one hm hw, m.oa.kept hw fun e => (m.fr _ (.inl e)).1 rfl, m.ob.kept hw fun e => (m.fr _ (.inl e)).2 rfl, m.fr, m.ne⟩
theorem EndAt.two {t' : MS} (m : EndAt w x0 x1 x2 h q b vw c vr s t qa qb g k W) (hm : Ref W' w.heap.size c vr t') (hw : Wrote (MemS c vr) W W') : EndAt w x0 x1 x2 h q b vw c vr s t' qa qb g k W' :=
  ⟨m.ask.two hm hw, m.oa.kept hw fun e => (m.fr _ (.inr e)).1 rfl, m.ob.kept hw fun e => (m.fr _ (.inr e)).2 rfl, m.fr, m.ne⟩
theorem EndAt.setA (m : EndAt w x0 x1 x2 h q b vw c vr s t qa qb g k W) (g' : HD) : EndAt w x0 x1 x2 h q b vw c vr s t qa qb g' k (((((W.setCell ⟨qa, 0, none⟩ (.int .i64 g'.t)).setCell ⟨qa, 1, none⟩ (.int .i64 g'.l)).setCell ⟨qa, 2, none⟩ (.int .i64 g'.s)).setCell ⟨qa, 3, none⟩ (.bool g'.rd)).setCell ⟨qa, 4, none⟩ (.int .i64 g'.x)) := by
  have hw := (Wrote.refl (fun j => j = qa) W).set5 (q := qa) (fun _ => rfl) (.int .i64 g'.t) (.int .i64 g'.l) (.int .i64 g'.s) (.bool g'.rd) (.int .i64 g'.x)
  exact ⟨m.ask.wrote hw (fun j e => by have := m.ne.2.1; omega) (fun j hj e => (m.fr j hj).1 e), m.oa.set5 g', m.ob.kept hw (Ne.symm m.ne.1), m.fr, m.ne⟩
theorem EndAt.setB (m : EndAt w x0 x1 x2 h q b vw c vr s t qa qb g k W) (g' : HD) : EndAt w x0 x1 x2 h q b vw c vr s t qa qb g g' (((((W.setCell ⟨qb, 0, none⟩ (.int .i64 g'.t)).setCell ⟨qb, 1, none⟩ (.int .i64 g'.l)).setCell ⟨qb, 2, none⟩ (.int .i64 g'.s)).setCell ⟨qb, 3, none⟩ (.bool g'.rd)).setCell ⟨qb, 4, none⟩ (.int .i64 g'.x)) := by
  have hw := (Wrote.refl (fun j => j = qb) W).set5 (q := qb) (fun _ => rfl) (.int .i64 g'.t) (.int .i64 g'.l) (.int .i64 g'.s) (.bool g'.rd) (.int .i64 g'.x)
  exact ⟨m.ask.wrote hw (fun j e => by have := m.ne.2.2; omega) (fun j hj e => (m.fr j hj).2 e), m.oa.kept hw m.ne.1, m.ob.set5 g', m.fr, m.ne⟩
theorem EndAt.anew {b' : Nat} {vw' : Value} {c' : Nat} {vr' : Value} {s' t' : MS} (m : EndAt w x0 x1 x2 h q b vw c vr s t qa qb g k W) (hp : Pair W' W.heap.size b' vw' c' vr' s' t') (hb : Below W.heap.size W W') : EndAt w x0 x1 x2 h q b' vw' c' vr' s' t' qa qb g k W' :=
  ⟨m.ask.anew hp hb, m.oa.below hb, m.ob.below hb, fun j hj => by
    have h1 := hp.old j
    have h2 := m.oa.lt
    have h3 := m.ob.lt
    exact ⟨fun e => h1 (by omega) hj, fun e => h1 (by omega) hj⟩, m.ne⟩
end

/-- The stages of the drops: the two calls (3, 8), the two stores (9, 10). -/
def EndD (w : World) (x0 x1 x2 : Int) (h : HD) (q b : Nat) (vw : Value) (c : Nat) (vr : Value) (s s' : MS) (qa qb : Nat) (g g' : HD) (L : Nat → Bool) (W : World) : Prop :=
  EndAt w x0 x1 x2 h q b vw c vr (bif L 3 then s' else s) (bif L 8 then s' else s) qa qb (bif L 9 then g' else g) (bif L 10 then g' else g) W
section
variable {w : World} {x0 x1 x2 : Int} {h : HD} {q b : Nat} {vw : Value} {c : Nat} {vr : Value} {s s' : MS} {qa qb : Nat} {g g' : HD} {L : Nat → Bool} {W : World}
theorem EndD.start (hL : ∀ j, L j = false) (k : EndAt w x0 x1 x2 h q b vw c vr s s qa qb g g W) : EndD w x0 x1 x2 h q b vw c vr s s' qa qb g g' L W.drew := by
  unfold EndD; rw [hL 3, hL 8, hL 9, hL 10]; exact k.later (bdrew (bid W))
theorem EndD.at3 (k : EndD w x0 x1 x2 h q b vw c vr s s' qa qb g g' L W) (hL : L 3 = false) : EndAt w x0 x1 x2 h q b vw c vr s (bif L 8 then s' else s) qa qb (bif L 9 then g' else g) (bif L 10 then g' else g) W := by
  unfold EndD at k; rw [hL] at k; exact k
theorem EndD.at8 (k : EndD w x0 x1 x2 h q b vw c vr s s' qa qb g g' L W) (hL : L 8 = false) : EndAt w x0 x1 x2 h q b vw c vr (bif L 3 then s' else s) s qa qb (bif L 9 then g' else g) (bif L 10 then g' else g) W := by
  unfold EndD at k; rw [hL] at k; exact k
theorem EndD.at9 (k : EndD w x0 x1 x2 h q b vw c vr s s' qa qb g g' L W) (hL : L 9 = false) : EndAt w x0 x1 x2 h q b vw c vr (bif L 3 then s' else s) (bif L 8 then s' else s) qa qb g (bif L 10 then g' else g) W := by
  unfold EndD at k; rw [hL] at k; exact k
theorem EndD.at10 (k : EndD w x0 x1 x2 h q b vw c vr s s' qa qb g g' L W) (hL : L 10 = false) : EndAt w x0 x1 x2 h q b vw c vr (bif L 3 then s' else s) (bif L 8 then s' else s) qa qb (bif L 9 then g' else g) g W := by
  unfold EndD at k; rw [hL] at k; exact k
theorem EndD.end_ (hall : ∀ j, j < 11 → L j = true) (k : EndD w x0 x1 x2 h q b vw c vr s s' qa qb g g' L W) : EndAt w x0 x1 x2 h q b vw c vr s' s' qa qb g' g' W := by
  unfold EndD at k; rw [hall 3 (by decide), hall 8 (by decide), hall 9 (by decide), hall 10 (by decide)] at k; exact k
theorem EndD.some (k : EndD w x0 x1 x2 h q b vw c vr s s' qa qb g g' L W) : ∃ s t, AskAt w x0 x1 x2 h q b vw c vr s t W := ⟨_, _, EndAt.ask k⟩
theorem AskAt.satReads (x : Sat (fun W => ∃ s t, AskAt w x0 x1 x2 h q b vw c vr s t W)) :
    x.v.cell? ⟨q, 0, none⟩ = some (.int .i64 2) ∧ x.v.cell? ⟨q, 1, none⟩ = some (.int .i64 2) ∧ x.v.cell? ⟨q, 2, none⟩ = some (.int .i64 4) ∧ x.v.cell? ⟨q, 3, none⟩ = some (.int .i64 0) ∧ x.v.cell? ⟨q, 4, none⟩ = some (.int .i64 2) ∧
      x.v.cell? ⟨w.heap.size + 1, 0, none⟩ = some (.int .i64 h.t) ∧ x.v.cell? ⟨w.heap.size + 1, 1, none⟩ = some (.int .i64 h.l) ∧ x.v.cell? ⟨w.heap.size + 1, 2, none⟩ = some (.int .i64 h.s) ∧ x.v.cell? ⟨w.heap.size + 1, 3, none⟩ = some (.bool h.rd) ∧ x.v.cell? ⟨w.heap.size + 1, 4, none⟩ = some (.int .i64 h.x) := by
  obtain ⟨v, p⟩ := x
  obtain ⟨s1, t1, k⟩ := p
  exact k.reads
end

/-- At most one step. -/
theorem take_steps (m : PM) (s : MS) (h : HD) : (tkTake m s h).2.steps = s.steps ∨ (tkTake m s h).2.steps = wrap64 (s.steps + 1) := by
  unfold tkTake
  split
  · split
    · simp only [MS.added]
      split
      · exact .inr rfl
      · exact .inl rfl
    · split
      · simp only [MS.loaded]
        split
        · exact .inr rfl
        · exact .inl rfl
      · exact .inl rfl
  · exact .inl rfl
theorem drop_steps (m : PM) (s : MS) (h : HD) : (tkDrop m s h).2.steps = s.steps ∨ (tkDrop m s h).2.steps = wrap64 (s.steps + 1) := by
  unfold tkDrop
  split
  · simp only [MS.stored]
    split
    · exact .inr rfl
    · exact .inl rfl
  · exact .inl rfl
theorem take_len (m : PM) (s : MS) (h : HD) : (tkTake m s h).2.zs.length = s.zs.length := by
  unfold tkTake
  split
  · split
    · exact len_added _ _ _
    · split
      · exact len_loaded _ _
      · rfl
  · rfl
theorem drop_len (m : PM) (s : MS) (h : HD) : (tkDrop m s h).2.zs.length = s.zs.length := by
  unfold tkDrop
  split
  · exact len_stored _ _ _
  · rfl
theorem stored_steps (s : MS) (p v : Int) (n : Int) (h0 : 0 ≤ s.steps) (h1 : s.steps ≤ n) (hn : n ≤ 1000) : 0 ≤ (s.stored p v).steps ∧ (s.stored p v).steps ≤ n + 1 := by
  simp only [MS.stored]
  split
  · show 0 ≤ wrap64 (s.steps + 1) ∧ wrap64 (s.steps + 1) ≤ n + 1
    rw [wrap_small (by omega) (by omega)]
    omega
  · exact ⟨h0, by omega⟩
theorem one_more {x n : Int} (h : x = n ∨ x = wrap64 (n + 1)) (h0 : 0 ≤ n) (h1 : n ≤ 1000) : decide (wrap64 (x - n) ≤ 1) = true := by
  rcases h with rfl | rfl
  · rw [Int.sub_self, wrap_small (by omega) (by omega)]; decide
  · rw [wrap_small (x := n + 1) (by omega) (by omega), wrap_small (by omega) (by omega)]
    have : n + 1 - n ≤ 1 := by omega
    exact decide_eq_true this

theorem diff_one {x n : Int} (h : x = n ∨ x = wrap64 (n + 1)) (h0 : 0 ≤ n) (h1 : n ≤ 3) : ∃ d, (d = 0 ∨ d = 1) ∧ wrap64 (x - n) = d ∧ IntKind.i64.wrap (x - n) = d := by
  have e : x - n = 0 ∨ x - n = 1 := by
    rcases h with rfl | rfl
    · left; omega
    · rw [wrap_small (by omega) (by omega)]; right; omega
  refine ⟨x - n, e, wrap_small (by omega) (by omega), ?_⟩
  exact IntWalk.i64_in _ ⟨by omega, by omega⟩

section
variable {P : Program} {ops : Array Oper} {md : Region.Mode} {D : (Nat → Bool) → World → Prop} {Q : Act → Prop} {k : Nat} {o : Oper} {rest : List Oper} {a : Act}
theorem wpS_val (v : Value) (hw : Region.wanted o (yielded ops a.tmps) = true) (hs : ∀ L w, L k = false → Cl md ops o L → D L w → ∃ w', (execOp a.eval o).run P w = .ok (.value v) w' ∧ D (bump L k) w')
    (h : wpS P ops md D Q (k + 1) rest (a.put o.dst v)) : wpS P ops md D Q k (o :: rest) a :=
  ⟨v, .inl ⟨hw, fun L w hL hcl hd => by obtain ⟨w', hr, hd'⟩ := hs L w hL hcl hd; rw [hr]; exact ⟨rfl, hd'⟩⟩, h⟩
end

end Go.Proofs.Ytpphllijbbcdcaa
