/-
  What stands where in McsAsks: both memories, both maps, the hand, what both made of it; the words ahead of it.
-/
import Derived.Test.YtmcmajndcbobpaaMcsRT
import Derived.Test.YtmcmajndcbobpaaMcsRD
import Derived.Test.YtmcmajndcbobpaaMcsE
import Derived.Test.YtmcmajndcbobpaaStage
import Derived.Test.YtmcmajndcbobpaaHandN
namespace Go.Proofs.Ytmcmajndcbobpaa
open Go.RowKit
attribute [local go_sem] Later.cell Later.frozen

structure AsAt (w : World) (q qf qh qa qb b : Nat) (vw : Value) (c : Nat) (vr : Value) (s t : MS) (h ga gb : HD) (W : World) : Prop where
  map : MapAt 26 W q mp4
  rmap : MapAt 29 W qf mp4
  box : HandAt W qh h
  pair : Pair W w.heap.size b vw c vr s t
  ah : HandAt W qa ga
  bh : HandAt W qb gb
  tag : ∃ f : Nat → Nat, f q = 0 ∧ f qf = 1 ∧ f qh = 2 ∧ f qa = 3 ∧ f qb = 4 ∧ (∀ k, MemS b vw k → f k = 5) ∧ (∀ k, MemS c vr k → f k = 6)
  q0 : w.heap.size ≤ qa ∧ w.heap.size ≤ qb
  below : Below w.heap.size w W
section
variable {w : World} {q qf qh qa qb b : Nat} {vw : Value} {c : Nat} {vr : Value} {s t : MS} {h ga gb : HD} {W W' : World}
theorem AsAt.later (k : AsAt w q qf qh qa qb b vw c vr s t h ga gb W) (hb : Below W.heap.size W W') : AsAt w q qf qh qa qb b vw c vr s t h ga gb W' :=
  ⟨k.map.below hb, k.rmap.below hb, k.box.below hb, k.pair.below hb, k.ah.below hb, k.bh.below hb, k.tag, k.q0, bthen k.below hb⟩
theorem AsAt.one {s' : MS} (k : AsAt w q qf qh qa qb b vw c vr s t h ga gb W) (hm : Mem W' w.heap.size b vw s') (hw : Wrote (MemS b vw) W W') : AsAt w q qf qh qa qb b vw c vr s' t h ga gb W' := by
  obtain ⟨f, f0, f1, f2, f3, f4, f5, f6⟩ := k.tag
  exact ⟨(hw.block q k.map.lt fun h => by have := f5 q h; omega).trans k.map, (hw.block qf k.rmap.lt fun h => by have := f5 qf h; omega).trans k.rmap, k.box.kept hw fun h => by have := f5 qh h; omega, k.pair.one hm hw, k.ah.kept hw fun h => by have := f5 qa h; omega, k.bh.kept hw fun h => by have := f5 qb h; omega, k.tag, k.q0, k.below.trans (hw.below k.below.size k.pair.mem.old)⟩
theorem AsAt.two {t' : MS} (k : AsAt w q qf qh qa qb b vw c vr s t h ga gb W) (hm : Ref W' w.heap.size c vr t') (hw : Wrote (MemS c vr) W W') : AsAt w q qf qh qa qb b vw c vr s t' h ga gb W' := by
  obtain ⟨f, f0, f1, f2, f3, f4, f5, f6⟩ := k.tag
  exact ⟨(hw.block q k.map.lt fun h => by have := f6 q h; omega).trans k.map, (hw.block qf k.rmap.lt fun h => by have := f6 qf h; omega).trans k.rmap, k.box.kept hw fun h => by have := f6 qh h; omega, k.pair.two hm hw, k.ah.kept hw fun h => by have := f6 qa h; omega, k.bh.kept hw fun h => by have := f6 qb h; omega, k.tag, k.q0, k.below.trans (hw.below k.below.size k.pair.ref.old)⟩
theorem AsAt.setA (k : AsAt w q qf qh qa qb b vw c vr s t h ga gb W) (g : HD) : AsAt w q qf qh qa qb b vw c vr s t h g gb (((((W.setCell ⟨qa, 0, none⟩ (.int .i64 g.t)).setCell ⟨qa, 1, none⟩ (.int .i64 g.l)).setCell ⟨qa, 2, none⟩ (.int .i64 g.s)).setCell ⟨qa, 3, none⟩ (.bool g.rd)).setCell ⟨qa, 4, none⟩ (.int .i64 g.x)) := by
  have hw := (Wrote.refl (fun j => j = qa) W).set5 (q := qa) (fun _ => rfl) (.int .i64 g.t) (.int .i64 g.l) (.int .i64 g.s) (.bool g.rd) (.int .i64 g.x)
  obtain ⟨f, f0, f1, f2, f3, f4, f5, f6⟩ := k.tag
  exact ⟨(hw.block q k.map.lt fun e => by rw [e] at f0; omega).trans k.map, (hw.block qf k.rmap.lt fun e => by rw [e] at f1; omega).trans k.rmap, k.box.kept hw fun e => by rw [e] at f2; omega, ⟨k.pair.mem.kept hw fun j h e => by have := f5 j h; rw [e] at this; omega, k.pair.ref.kept hw fun j h e => by have := f6 j h; rw [e] at this; omega, k.pair.apart⟩, k.ah.set5 g, k.bh.kept hw fun e => by rw [e] at f4; omega, k.tag, k.q0, k.below.trans (hw.below k.below.size fun j hj e => by have := k.q0; omega)⟩
theorem AsAt.setB (k : AsAt w q qf qh qa qb b vw c vr s t h ga gb W) (g : HD) : AsAt w q qf qh qa qb b vw c vr s t h ga g (((((W.setCell ⟨qb, 0, none⟩ (.int .i64 g.t)).setCell ⟨qb, 1, none⟩ (.int .i64 g.l)).setCell ⟨qb, 2, none⟩ (.int .i64 g.s)).setCell ⟨qb, 3, none⟩ (.bool g.rd)).setCell ⟨qb, 4, none⟩ (.int .i64 g.x)) := by
  have hw := (Wrote.refl (fun j => j = qb) W).set5 (q := qb) (fun _ => rfl) (.int .i64 g.t) (.int .i64 g.l) (.int .i64 g.s) (.bool g.rd) (.int .i64 g.x)
  obtain ⟨f, f0, f1, f2, f3, f4, f5, f6⟩ := k.tag
  exact ⟨(hw.block q k.map.lt fun e => by rw [e] at f0; omega).trans k.map, (hw.block qf k.rmap.lt fun e => by rw [e] at f1; omega).trans k.rmap, k.box.kept hw fun e => by rw [e] at f2; omega, ⟨k.pair.mem.kept hw fun j h e => by have := f5 j h; rw [e] at this; omega, k.pair.ref.kept hw fun j h e => by have := f6 j h; rw [e] at this; omega, k.pair.apart⟩, k.ah.kept hw fun e => by rw [e] at f3; omega, k.bh.set5 g, k.tag, k.q0, k.below.trans (hw.below k.below.size fun j hj e => by have := k.q0; omega)⟩
def AsCells (q qf qh : Nat) (h : HD) (W : World) : Prop :=
  W.cell? ⟨q, 0, none⟩ = some (.int .i64 2) ∧ W.cell? ⟨q, 1, none⟩ = some (.int .i64 2) ∧ W.cell? ⟨q, 2, none⟩ = some (.int .i64 4) ∧ W.cell? ⟨q, 3, none⟩ = some (.int .i64 0) ∧ W.cell? ⟨q, 4, none⟩ = some (.int .i64 2) ∧
  W.cell? ⟨qf, 0, none⟩ = some (.int .i64 2) ∧ W.cell? ⟨qf, 1, none⟩ = some (.int .i64 2) ∧ W.cell? ⟨qf, 2, none⟩ = some (.int .i64 4) ∧ W.cell? ⟨qf, 3, none⟩ = some (.int .i64 0) ∧ W.cell? ⟨qf, 4, none⟩ = some (.int .i64 2) ∧
  W.cell? ⟨qh, 0, none⟩ = some (.int .i64 h.t) ∧ W.cell? ⟨qh, 1, none⟩ = some (.int .i64 h.l) ∧ W.cell? ⟨qh, 2, none⟩ = some (.int .i64 h.s) ∧ W.cell? ⟨qh, 3, none⟩ = some (.bool h.rd) ∧ W.cell? ⟨qh, 4, none⟩ = some (.int .i64 h.x)
theorem AsAt.cells (k : AsAt w q qf qh qa qb b vw c vr s t h ga gb W) : AsCells q qf qh h W := by
  obtain ⟨m0, m1, m2, m3, m4, _⟩ := k.map.facts
  obtain ⟨n0, n1, n2, n3, n4, _⟩ := k.rmap.facts
  obtain ⟨e0, e1, e2, e3, e4, _⟩ := k.box.facts
  exact ⟨m0, m1, m2, m3, m4, n0, n1, n2, n3, n4, e0, e1, e2, e3, e4⟩
theorem AsAt.satCells (x : Sat (fun W => ∃ s t ga gb, AsAt w q qf qh qa qb b vw c vr s t h ga gb W)) : AsCells q qf qh h x.v := by
  obtain ⟨v, p⟩ := x
  obtain ⟨_, _, _, _, k⟩ := p
  exact k.cells
/-- The stages: the two calls (3, 7), the two stores (8, 9). -/
def AsD (w : World) (q qf qh qa qb b : Nat) (vw : Value) (c : Nat) (vr : Value) (s s' : MS) (h g : HD) (L : Nat → Bool) (W : World) : Prop :=
  AsAt w q qf qh qa qb b vw c vr (bif L 3 then s' else s) (bif L 7 then s' else s) h (bif L 8 then g else h) (bif L 9 then g else h) W
variable {s' : MS} {g : HD} {L : Nat → Bool}
theorem AsD.start (hL : ∀ j, L j = false) (k : AsAt w q qf qh qa qb b vw c vr s s h h h W) : AsD w q qf qh qa qb b vw c vr s s' h g L W.drew := by
  unfold AsD; rw [hL 3, hL 7, hL 8, hL 9]; exact k.later (bdrew (bid W))
theorem AsD.at3 (k : AsD w q qf qh qa qb b vw c vr s s' h g L W) (hL : L 3 = false) : AsAt w q qf qh qa qb b vw c vr s (bif L 7 then s' else s) h (bif L 8 then g else h) (bif L 9 then g else h) W := by
  unfold AsD at k; rw [hL] at k; exact k
theorem AsD.at7 (k : AsD w q qf qh qa qb b vw c vr s s' h g L W) (hL : L 7 = false) : AsAt w q qf qh qa qb b vw c vr (bif L 3 then s' else s) s h (bif L 8 then g else h) (bif L 9 then g else h) W := by
  unfold AsD at k; rw [hL] at k; exact k
theorem AsD.at8 (k : AsD w q qf qh qa qb b vw c vr s s' h g L W) (hL : L 8 = false) : AsAt w q qf qh qa qb b vw c vr (bif L 3 then s' else s) (bif L 7 then s' else s) h h (bif L 9 then g else h) W := by
  unfold AsD at k; rw [hL] at k; exact k
theorem AsD.at9 (k : AsD w q qf qh qa qb b vw c vr s s' h g L W) (hL : L 9 = false) : AsAt w q qf qh qa qb b vw c vr (bif L 3 then s' else s) (bif L 7 then s' else s) h (bif L 8 then g else h) h W := by
  unfold AsD at k; rw [hL] at k; exact k
theorem AsD.end_ (hall : ∀ j, j < 10 → L j = true) (k : AsD w q qf qh qa qb b vw c vr s s' h g L W) : AsAt w q qf qh qa qb b vw c vr s' s' h g g W := by
  unfold AsD at k; rw [hall 3 (by decide), hall 7 (by decide), hall 8 (by decide), hall 9 (by decide)] at k; exact k
end

/-- Ahead of the memories: the hand, the maps, the words. -/
structure LsAt (w : World) (q qf qh gl : Nat) (h : HD) (zs : List Int) (W : World) : Prop where
  box : HandAt W qh h
  map : MapAt 26 W q mp4
  rmap : MapAt 29 W qf mp4
  row : Ints 2 W w.heap.size gl 48 zs
  len : zs.length = 48
  ne : qh ≠ gl ∧ q ≠ gl ∧ qf ≠ gl ∧ qh ≠ q ∧ qh ≠ qf ∧ q ≠ qf
  q0 : w.heap.size ≤ gl
  below : Below w.heap.size w W
theorem LsAt.later {w : World} {q qf qh gl : Nat} {h : HD} {zs : List Int} {W W' : World} (k : LsAt w q qf qh gl h zs W) (hb : Below W.heap.size W W') : LsAt w q qf qh gl h zs W' :=
  ⟨k.box.below hb, k.map.below hb, k.rmap.below hb, k.row.below hb, k.len, k.ne, k.q0, bthen k.below hb⟩
theorem LsAt.store {w : World} {q qf qh gl : Nat} {h : HD} {zs : List Int} {W : World} (k : LsAt w q qf qh gl h zs W) (i : Nat) (v : Int) : LsAt w q qf qh gl h (zs.set i v) (W.setCell ⟨gl, i, none⟩ (.int .i64 v)) := by
  have hw : Wrote (fun j => j = gl) W (W.setCell ⟨gl, i, none⟩ (.int .i64 v)) := (Wrote.refl (fun j => j = gl) W).setCell (p := ⟨gl, i, none⟩) (fun _ => rfl) _
  exact ⟨k.box.kept hw k.ne.1, (hw.block q k.map.lt k.ne.2.1).trans k.map, (hw.block qf k.rmap.lt k.ne.2.2.1).trans k.rmap, k.row.store i v, by rw [List.length_set]; exact k.len, k.ne, k.q0, k.below.trans (hw.below k.below.size fun j hj e => by have := k.q0; omega)⟩
theorem LsAt.cell {w : World} {q qf qh gl : Nat} {h : HD} {zs : List Int} {W : World} (k : LsAt w q qf qh gl h zs W) {i : Nat} (hi : i < 48) : W.cell? ⟨gl, i, none⟩ = some (.int .i64 (zs.getD i 0)) ∧ W.frozen? ⟨gl, i, none⟩ = false := ⟨k.row.cell (by rw [k.len]; exact hi), k.row.frozen i⟩

end Go.Proofs.Ytmcmajndcbobpaa
