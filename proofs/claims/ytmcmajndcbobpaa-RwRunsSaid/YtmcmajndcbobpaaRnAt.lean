/-
  Both memories, both maps, two arrays of hands, an array of four cells: what McsRuns keeps; a row of four values.
-/
import Derived.Test.YtmcmajndcbobpaaMcAt
import Derived.Test.YtmcmajndcbobpaaMcsE
import Derived.Test.YtmcmajndcbobpaaMcsRT
import Derived.Test.YtmcmajndcbobpaaMcsRD
import Derived.Test.YtmcmajndcbobpaaFourV
namespace Go.Proofs.Ytmcmajndcbobpaa
open Go.RowKit
attribute [local go_sem] Later.cell Later.frozen

/-- What McsRuns keeps. The tags tell whose each block is. -/
structure RnAt (w : World) (q qf qa qb qo b : Nat) (vw : Value) (c : Nat) (vr : Value) (s t : MS) (hs ks : Nat → HD) (os : Nat → Bool) (W : World) : Prop where
  map : MapAt 26 W q mp4
  rmap : MapAt 29 W qf mp4
  pair : Pair W w.heap.size b vw c vr s t
  ah : FourAt W qa hs
  bh : FourAt W qb ks
  oo : FourV 52 W qo fun j => .bool (os j)
  tag : ∃ f : Nat → Nat, f q = 0 ∧ f qf = 1 ∧ f qa = 2 ∧ f qb = 3 ∧ f qo = 4 ∧ (∀ k, MemS b vw k → f k = 5) ∧ (∀ k, MemS c vr k → f k = 6)
  q0 : w.heap.size ≤ q ∧ w.heap.size ≤ qf ∧ w.heap.size ≤ qa ∧ w.heap.size ≤ qb ∧ w.heap.size ≤ qo
  below : Below w.heap.size w W
section
variable {w : World} {q qf qa qb qo b : Nat} {vw : Value} {c : Nat} {vr : Value} {s t : MS} {hs ks : Nat → HD} {os : Nat → Bool} {W W' : World}
theorem RnAt.later (k : RnAt w q qf qa qb qo b vw c vr s t hs ks os W) (hb : Below W.heap.size W W') : RnAt w q qf qa qb qo b vw c vr s t hs ks os W' :=
  ⟨k.map.below hb, k.rmap.below hb, k.pair.below hb, k.ah.below hb, k.bh.below hb, k.oo.below hb, k.tag, k.q0, bthen k.below hb⟩
theorem RnAt.one {s' : MS} (k : RnAt w q qf qa qb qo b vw c vr s t hs ks os W) (hm : Mem W' w.heap.size b vw s') (hw : Wrote (MemS b vw) W W') : RnAt w q qf qa qb qo b vw c vr s' t hs ks os W' := by
  obtain ⟨f, f0, f1, f2, f3, f4, f5, f6⟩ := k.tag
  exact ⟨(hw.block q k.map.lt fun h => by have := f5 q h; omega).trans k.map, (hw.block qf k.rmap.lt fun h => by have := f5 qf h; omega).trans k.rmap, k.pair.one hm hw, k.ah.kept hw fun h => by have := f5 qa h; omega, k.bh.kept hw fun h => by have := f5 qb h; omega, k.oo.kept hw fun h => by have := f5 qo h; omega, k.tag, k.q0, k.below.trans (hw.below k.below.size k.pair.mem.old)⟩
theorem RnAt.two {t' : MS} (k : RnAt w q qf qa qb qo b vw c vr s t hs ks os W) (hm : Ref W' w.heap.size c vr t') (hw : Wrote (MemS c vr) W W') : RnAt w q qf qa qb qo b vw c vr s t' hs ks os W' := by
  obtain ⟨f, f0, f1, f2, f3, f4, f5, f6⟩ := k.tag
  exact ⟨(hw.block q k.map.lt fun h => by have := f6 q h; omega).trans k.map, (hw.block qf k.rmap.lt fun h => by have := f6 qf h; omega).trans k.rmap, k.pair.two hm hw, k.ah.kept hw fun h => by have := f6 qa h; omega, k.bh.kept hw fun h => by have := f6 qb h; omega, k.oo.kept hw fun h => by have := f6 qo h; omega, k.tag, k.q0, k.below.trans (hw.below k.below.size k.pair.ref.old)⟩
theorem RnAt.setA (k : RnAt w q qf qa qb qo b vw c vr s t hs ks os W) {i : Nat} (hi : i < 4) (g : HD) :
    RnAt w q qf qa qb qo b vw c vr s t (upd hs i g) ks os (((((W.setCell ⟨qa, i * 5, none⟩ (.int .i64 g.t)).setCell ⟨qa, i * 5 + 1, none⟩ (.int .i64 g.l)).setCell ⟨qa, i * 5 + 2, none⟩ (.int .i64 g.s)).setCell ⟨qa, i * 5 + 3, none⟩ (.bool g.rd)).setCell ⟨qa, i * 5 + 4, none⟩ (.int .i64 g.x)) := by
  have hw := (Wrote.refl (fun j => j = qa) W).setAt5 (q := qa) (o0 := i * 5) (o1 := i * 5 + 1) (o2 := i * 5 + 2) (o3 := i * 5 + 3) (o4 := i * 5 + 4) (fun _ => rfl) (.int .i64 g.t) (.int .i64 g.l) (.int .i64 g.s) (.bool g.rd) (.int .i64 g.x)
  obtain ⟨f, f0, f1, f2, f3, f4, f5, f6⟩ := k.tag
  exact ⟨(hw.block q k.map.lt fun e => by rw [e] at f0; omega).trans k.map, (hw.block qf k.rmap.lt fun e => by rw [e] at f1; omega).trans k.rmap, ⟨k.pair.mem.kept hw fun j h e => by have := f5 j h; rw [e] at this; omega, k.pair.ref.kept hw fun j h e => by have := f6 j h; rw [e] at this; omega, k.pair.apart⟩, k.ah.set hi g, k.bh.kept hw fun e => by rw [e] at f3; omega, k.oo.kept hw fun e => by rw [e] at f4; omega, k.tag, k.q0, k.below.trans (hw.below k.below.size fun j hj e => by have := k.q0; omega)⟩
theorem RnAt.setB (k : RnAt w q qf qa qb qo b vw c vr s t hs ks os W) {i : Nat} (hi : i < 4) (g : HD) :
    RnAt w q qf qa qb qo b vw c vr s t hs (upd ks i g) os (((((W.setCell ⟨qb, i * 5, none⟩ (.int .i64 g.t)).setCell ⟨qb, i * 5 + 1, none⟩ (.int .i64 g.l)).setCell ⟨qb, i * 5 + 2, none⟩ (.int .i64 g.s)).setCell ⟨qb, i * 5 + 3, none⟩ (.bool g.rd)).setCell ⟨qb, i * 5 + 4, none⟩ (.int .i64 g.x)) := by
  have hw := (Wrote.refl (fun j => j = qb) W).setAt5 (q := qb) (o0 := i * 5) (o1 := i * 5 + 1) (o2 := i * 5 + 2) (o3 := i * 5 + 3) (o4 := i * 5 + 4) (fun _ => rfl) (.int .i64 g.t) (.int .i64 g.l) (.int .i64 g.s) (.bool g.rd) (.int .i64 g.x)
  obtain ⟨f, f0, f1, f2, f3, f4, f5, f6⟩ := k.tag
  exact ⟨(hw.block q k.map.lt fun e => by rw [e] at f0; omega).trans k.map, (hw.block qf k.rmap.lt fun e => by rw [e] at f1; omega).trans k.rmap, ⟨k.pair.mem.kept hw fun j h e => by have := f5 j h; rw [e] at this; omega, k.pair.ref.kept hw fun j h e => by have := f6 j h; rw [e] at this; omega, k.pair.apart⟩, k.ah.kept hw fun e => by rw [e] at f2; omega, k.bh.set hi g, k.oo.kept hw fun e => by rw [e] at f4; omega, k.tag, k.q0, k.below.trans (hw.below k.below.size fun j hj e => by have := k.q0; omega)⟩
theorem RnAt.setO (k : RnAt w q qf qa qb qo b vw c vr s t hs ks os W) {i : Nat} (hi : i < 4) (B : Bool) : RnAt w q qf qa qb qo b vw c vr s t hs ks (updV os i B) (W.setCell ⟨qo, i, none⟩ (.bool B)) := by
  have hw : Wrote (fun j => j = qo) W (W.setCell ⟨qo, i, none⟩ (.bool B)) := (Wrote.refl (fun j => j = qo) W).setCell (p := ⟨qo, i, none⟩) (fun _ => rfl) _
  obtain ⟨f, f0, f1, f2, f3, f4, f5, f6⟩ := k.tag
  exact ⟨(hw.block q k.map.lt fun e => by rw [e] at f0; omega).trans k.map, (hw.block qf k.rmap.lt fun e => by rw [e] at f1; omega).trans k.rmap, ⟨k.pair.mem.kept hw fun j h e => by have := f5 j h; rw [e] at this; omega, k.pair.ref.kept hw fun j h e => by have := f6 j h; rw [e] at this; omega, k.pair.apart⟩, k.ah.kept hw fun e => by rw [e] at f2; omega, k.bh.kept hw fun e => by rw [e] at f3; omega, k.oo.set hi B, k.tag, k.q0, k.below.trans (hw.below k.below.size fun j hj e => by have := k.q0; omega)⟩
def RnCells (q qf qa qb k : Nat) (h g : HD) (W : World) : Prop :=
  W.cell? ⟨qf, 0, none⟩ = some (.int .i64 2) ∧ W.cell? ⟨qf, 1, none⟩ = some (.int .i64 2) ∧ W.cell? ⟨qf, 2, none⟩ = some (.int .i64 4) ∧ W.cell? ⟨qf, 3, none⟩ = some (.int .i64 0) ∧ W.cell? ⟨qf, 4, none⟩ = some (.int .i64 2) ∧
  W.cell? ⟨qb, k * 5, none⟩ = some (.int .i64 g.t) ∧ W.cell? ⟨qb, k * 5 + 1, none⟩ = some (.int .i64 g.l) ∧ W.cell? ⟨qb, k * 5 + 2, none⟩ = some (.int .i64 g.s) ∧ W.cell? ⟨qb, k * 5 + 3, none⟩ = some (.bool g.rd) ∧ W.cell? ⟨qb, k * 5 + 4, none⟩ = some (.int .i64 g.x) ∧ McCells q qa k h W
theorem RnAt.cells (h : RnAt w q qf qa qb qo b vw c vr s t hs ks os W) {k : Nat} (hk : k < 4) : RnCells q qf qa qb k (hs k) (ks k) W := by
  obtain ⟨m0, m1, m2, m3, m4, _⟩ := h.map.facts
  obtain ⟨n0, n1, n2, n3, n4, _⟩ := h.rmap.facts
  obtain ⟨e0, e1, e2, e3, e4, _⟩ := h.ah.facts hk
  obtain ⟨g0, g1, g2, g3, g4, _⟩ := h.bh.facts hk
  exact ⟨n0, n1, n2, n3, n4, g0, g1, g2, g3, g4, m0, m1, m2, m3, m4, e0, e1, e2, e3, e4⟩
theorem RnAt.satCells {k : Nat} (x : Sat (fun W => ∃ s t, RnAt w q qf qa qb qo b vw c vr s t hs ks os W)) (hk : k < 4) : RnCells q qf qa qb k (hs k) (ks k) x.v := by
  obtain ⟨v, p⟩ := x
  obtain ⟨s1, t1, h⟩ := p
  exact h.cells hk
/-- The stages of a round: the two calls (7, 13), the two stores (15, 17). -/
def RnD (w : World) (q qf qa qb qo b : Nat) (vw : Value) (c : Nat) (vr : Value) (s s' : MS) (hs : Nat → HD) (k : Nat) (g : HD) (os : Nat → Bool) (L : Nat → Bool) (W : World) : Prop :=
  RnAt w q qf qa qb qo b vw c vr (bif L 7 then s' else s) (bif L 13 then s' else s) (bif L 15 then upd hs k g else hs) (bif L 17 then upd hs k g else hs) os W
variable {s' : MS} {k : Nat} {g : HD} {L : Nat → Bool}
theorem RnD.start (hL : ∀ j, L j = false) (h : RnAt w q qf qa qb qo b vw c vr s s hs hs os W) : RnD w q qf qa qb qo b vw c vr s s' hs k g os L W.drew := by
  unfold RnD; rw [hL 7, hL 13, hL 15, hL 17]; exact h.later (bdrew (bid W))
theorem RnD.reads (h : RnD w q qf qa qb qo b vw c vr s s' hs k g os L W) (h15 : L 15 = false) (h17 : L 17 = false) : ∃ s t, RnAt w q qf qa qb qo b vw c vr s t hs hs os W := by
  unfold RnD at h; rw [h15, h17] at h; exact ⟨_, _, h⟩
theorem RnD.at7 (h : RnD w q qf qa qb qo b vw c vr s s' hs k g os L W) (hL : L 7 = false) : RnAt w q qf qa qb qo b vw c vr s (bif L 13 then s' else s) (bif L 15 then upd hs k g else hs) (bif L 17 then upd hs k g else hs) os W := by
  unfold RnD at h; rw [hL] at h; exact h
theorem RnD.at13 (h : RnD w q qf qa qb qo b vw c vr s s' hs k g os L W) (hL : L 13 = false) : RnAt w q qf qa qb qo b vw c vr (bif L 7 then s' else s) s (bif L 15 then upd hs k g else hs) (bif L 17 then upd hs k g else hs) os W := by
  unfold RnD at h; rw [hL] at h; exact h
theorem RnD.at15 (h : RnD w q qf qa qb qo b vw c vr s s' hs k g os L W) (hL : L 15 = false) : RnAt w q qf qa qb qo b vw c vr (bif L 7 then s' else s) (bif L 13 then s' else s) hs (bif L 17 then upd hs k g else hs) os W := by
  unfold RnD at h; rw [hL] at h; exact h
theorem RnD.at17 (h : RnD w q qf qa qb qo b vw c vr s s' hs k g os L W) (hL : L 17 = false) : RnAt w q qf qa qb qo b vw c vr (bif L 7 then s' else s) (bif L 13 then s' else s) (bif L 15 then upd hs k g else hs) hs os W := by
  unfold RnD at h; rw [hL] at h; exact h
theorem RnD.end_ (hall : ∀ j, j < 18 → L j = true) (h : RnD w q qf qa qb qo b vw c vr s s' hs k g os L W) : RnAt w q qf qa qb qo b vw c vr s' s' (upd hs k g) (upd hs k g) os W := by
  unfold RnD at h; rw [hall 7 (by decide), hall 13 (by decide), hall 15 (by decide), hall 17 (by decide)] at h; exact h
end

end Go.Proofs.Ytmcmajndcbobpaa
