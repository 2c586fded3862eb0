/-
  What stands where while four hands play: the map, a memory that was handed in, four hands, how often each had the lock, who holds it, two lists of one's own.
-/
import Derived.Test.YtmngpgocpamfgaaMcAt
import Derived.Test.YtmngpgocpamfgaaILm
import Derived.Test.YtmngpgocpamfgaaFourV
import Derived.Test.YtmngpgocpamfgaaMcOrdD
namespace Go.Proofs.Ytmngpgocpamfgaa
open Go.RowKit
attribute [local go_sem] Later.cell Later.frozen

structure PlAt (w : World) (q qh qn qo B b : Nat) (vw : Value) (s : MS) (hs : Nat → HD) (ns : Nat → Nat) (os : Nat → Bool) (va vd : Value) (sw hd : List Nat) (W : World) : Prop where
  map : MapAt 27 W q mp4
  mem : Mem W B b vw s
  hh : FourAt W qh hs
  nn : FourV 92 W qn fun j => .int .i64 (ns j : Nat)
  oo : FourV 52 W qo fun j => .bool (os j)
  sws : IL W w.heap.size va sw
  hds : IL W w.heap.size vd hd
  old : ∀ k, MemS b vw k → k < w.heap.size
  tag : ∃ f : Nat → Nat, f q = 0 ∧ f qh = 1 ∧ f qn = 2 ∧ f qo = 3 ∧ (∀ k, va.ownBlock = some k → f k = 4) ∧ (∀ k, vd.ownBlock = some k → f k = 5)
  q0 : w.heap.size ≤ q ∧ w.heap.size ≤ qh ∧ w.heap.size ≤ qn ∧ w.heap.size ≤ qo
  wrote : Wrote (MemS b vw) w W
section
variable {w : World} {q qh qn qo B b : Nat} {vw : Value} {s : MS} {hs : Nat → HD} {ns : Nat → Nat} {os : Nat → Bool} {va vd : Value} {sw hd : List Nat} {W W' : World}
theorem PlAt.ilold (k : PlAt w q qh qn qo B b vw s hs ns os va vd sw hd W) : (∀ j, va.ownBlock = some j → w.heap.size ≤ j ∧ j < W.heap.size) ∧ (∀ j, vd.ownBlock = some j → w.heap.size ≤ j ∧ j < W.heap.size) := ⟨fun _ h => k.sws.old h, fun _ h => k.hds.old h⟩
theorem PlAt.later (k : PlAt w q qh qn qo B b vw s hs ns os va vd sw hd W) (h : Below W.heap.size W W') : PlAt w q qh qn qo B b vw s hs ns os va vd sw hd W' :=
  ⟨k.map.below h, k.mem.kept (Wrote.of_below h (fun _ => False)) (fun _ _ h => h), k.hh.below h, k.nn.below h, k.oo.below h, k.sws.kept (Wrote.of_below h (fun _ => False)) (fun _ _ h => h), k.hds.kept (Wrote.of_below h (fun _ => False)) (fun _ _ h => h), k.old, k.tag, k.q0, k.wrote.trans (Wrote.of_below h _)⟩
theorem PlAt.one {s' : MS} (k : PlAt w q qh qn qo B b vw s hs ns os va vd sw hd W) (hm : Mem W' B b vw s') (hw : Wrote (MemS b vw) W W') : PlAt w q qh qn qo B b vw s' hs ns os va vd sw hd W' := by
  obtain ⟨z0, z1, z2, z3⟩ := k.q0
  have lo := k.old
  exact ⟨(hw.block q k.map.lt fun h => by have := lo q h; omega).trans k.map, hm, k.hh.kept hw fun h => by have := lo qh h; omega, k.nn.kept hw fun h => by have := lo qn h; omega, k.oo.kept hw fun h => by have := lo qo h; omega,
    k.sws.kept hw fun j h1 h2 => by have := (k.ilold.1 j h1).1; have := lo j h2; omega, k.hds.kept hw fun j h1 h2 => by have := (k.ilold.2 j h1).1; have := lo j h2; omega, k.old, k.tag, k.q0, k.wrote.trans hw⟩
theorem PlAt.setH (k : PlAt w q qh qn qo B b vw s hs ns os va vd sw hd W) {i : Nat} (hi : i < 4) (g : HD) :
    PlAt w q qh qn qo B b vw s (upd hs i g) ns os va vd sw hd (((((W.setCell ⟨qh, i * 5, none⟩ (.int .i64 g.t)).setCell ⟨qh, i * 5 + 1, none⟩ (.int .i64 g.l)).setCell ⟨qh, i * 5 + 2, none⟩ (.int .i64 g.s)).setCell ⟨qh, i * 5 + 3, none⟩ (.bool g.rd)).setCell ⟨qh, i * 5 + 4, none⟩ (.int .i64 g.x)) := by
  obtain ⟨z0, z1, z2, z3⟩ := k.q0
  have lo := k.old
  obtain ⟨f, f0, f1, f2, f3, f4, f5⟩ := k.tag
  have hw := (Wrote.refl (fun j => j = qh) W).setAt5 (q := qh) (o0 := i * 5) (o1 := i * 5 + 1) (o2 := i * 5 + 2) (o3 := i * 5 + 3) (o4 := i * 5 + 4) (fun _ => rfl) (.int .i64 g.t) (.int .i64 g.l) (.int .i64 g.s) (.bool g.rd) (.int .i64 g.x)
  exact ⟨(hw.block q k.map.lt fun e => by rw [e] at f0; omega).trans k.map, k.mem.kept hw fun j h e => by have := lo j h; omega, k.hh.set hi g, k.nn.kept hw fun e => by rw [e] at f2; omega, k.oo.kept hw fun e => by rw [e] at f3; omega,
    k.sws.kept hw fun j h e => by have := f4 j h; rw [e] at this; omega, k.hds.kept hw fun j h e => by have := f5 j h; rw [e] at this; omega, k.old, k.tag, k.q0, k.wrote.then hw fun j hj e => by omega⟩
theorem PlAt.setN (k : PlAt w q qh qn qo B b vw s hs ns os va vd sw hd W) {i : Nat} (hi : i < 4) (m : Nat) (v : Int) (hv : v = (m : Int)) : PlAt w q qh qn qo B b vw s hs (updV ns i m) os va vd sw hd (W.setCell ⟨qn, i, none⟩ (.int .i64 v)) := by
  subst hv
  obtain ⟨z0, z1, z2, z3⟩ := k.q0
  have lo := k.old
  obtain ⟨f, f0, f1, f2, f3, f4, f5⟩ := k.tag
  have hw : Wrote (fun j => j = qn) W (W.setCell ⟨qn, i, none⟩ (.int .i64 (m : Int))) := (Wrote.refl (fun j => j = qn) W).setCell (p := ⟨qn, i, none⟩) (fun _ => rfl) _
  exact ⟨(hw.block q k.map.lt fun e => by rw [e] at f0; omega).trans k.map, k.mem.kept hw fun j h e => by have := lo j h; omega, k.hh.kept hw fun e => by rw [e] at f1; omega, k.nn.set (g := fun n : Nat => .int .i64 (n : Int)) hi m, k.oo.kept hw fun e => by rw [e] at f3; omega,
    k.sws.kept hw fun j h e => by have := f4 j h; rw [e] at this; omega, k.hds.kept hw fun j h e => by have := f5 j h; rw [e] at this; omega, k.old, k.tag, k.q0, k.wrote.then hw fun j hj e => by omega⟩
theorem PlAt.setO (k : PlAt w q qh qn qo B b vw s hs ns os va vd sw hd W) {i : Nat} (hi : i < 4) (m : Bool) : PlAt w q qh qn qo B b vw s hs ns (updV os i m) va vd sw hd (W.setCell ⟨qo, i, none⟩ (.bool m)) := by
  obtain ⟨z0, z1, z2, z3⟩ := k.q0
  have lo := k.old
  obtain ⟨f, f0, f1, f2, f3, f4, f5⟩ := k.tag
  have hw : Wrote (fun j => j = qo) W (W.setCell ⟨qo, i, none⟩ (.bool m)) := (Wrote.refl (fun j => j = qo) W).setCell (p := ⟨qo, i, none⟩) (fun _ => rfl) _
  exact ⟨(hw.block q k.map.lt fun e => by rw [e] at f0; omega).trans k.map, k.mem.kept hw fun j h e => by have := lo j h; omega, k.hh.kept hw fun e => by rw [e] at f1; omega, k.nn.kept hw fun e => by rw [e] at f2; omega, k.oo.set (g := fun n : Bool => .bool n) hi m,
    k.sws.kept hw fun j h e => by have := f4 j h; rw [e] at this; omega, k.hds.kept hw fun j h e => by have := f5 j h; rw [e] at this; omega, k.old, k.tag, k.q0, k.wrote.then hw fun j hj e => by omega⟩
theorem PlAt.swUp {va' : Value} {sw' : List Nat} {n : Nat} (k : PlAt w q qh qn qo B b vw s hs ns os va vd sw hd W) (hm : IL W' w.heap.size va' sw') (hw : Wrote (fun j => va.ownBlock = some j) W W') (ho : va'.ownBlock = va.ownBlock ∨ va'.ownBlock = some n) (hn : W.heap.size ≤ n) : PlAt w q qh qn qo B b vw s hs ns os va' vd sw' hd W' := by
  obtain ⟨z0, z1, z2, z3⟩ := k.q0
  have lo := k.old
  obtain ⟨f, f0, f1, f2, f3, f4, f5⟩ := k.tag
  obtain ⟨la, ld⟩ := k.ilold
  have l0 := k.map.lt
  have l1 := k.hh.lt
  have l2 := k.nn.lt
  have l3 := k.oo.lt
  refine ⟨(hw.block q k.map.lt fun h => by have := f4 q h; omega).trans k.map, k.mem.kept hw fun j h1 h2 => by have := lo j h1; have := la j h2; omega, k.hh.kept hw fun h => by have := f4 qh h; omega, k.nn.kept hw fun h => by have := f4 qn h; omega, k.oo.kept hw fun h => by have := f4 qo h; omega, hm,
    k.hds.kept hw fun j h1 h2 => by have := f5 j h1; have := f4 j h2; omega, k.old, ⟨tagN W.heap.size 4 f, by rw [tagN_old (by omega)]; exact f0, by rw [tagN_old (by omega)]; exact f1, by rw [tagN_old (by omega)]; exact f2, by rw [tagN_old (by omega)]; exact f3, fun j h => ?_, fun j h => by rw [tagN_old (by have := ld j h; omega)]; exact f5 j h⟩, k.q0,
    k.wrote.then hw fun j hj h => by have := la j h; omega⟩
  rcases ho with ho | ho
  · rw [ho] at h; rw [tagN_old (by have := la j h; omega)]; exact f4 j h
  · rw [ho] at h; cases h; rw [tagN_new hn]
theorem PlAt.hdUp {vd' : Value} {hd' : List Nat} {n : Nat} (k : PlAt w q qh qn qo B b vw s hs ns os va vd sw hd W) (hm : IL W' w.heap.size vd' hd') (hw : Wrote (fun j => vd.ownBlock = some j) W W') (ho : vd'.ownBlock = vd.ownBlock ∨ vd'.ownBlock = some n) (hn : W.heap.size ≤ n) : PlAt w q qh qn qo B b vw s hs ns os va vd' sw hd' W' := by
  obtain ⟨z0, z1, z2, z3⟩ := k.q0
  have lo := k.old
  obtain ⟨f, f0, f1, f2, f3, f4, f5⟩ := k.tag
  obtain ⟨la, ld⟩ := k.ilold
  have l0 := k.map.lt
  have l1 := k.hh.lt
  have l2 := k.nn.lt
  have l3 := k.oo.lt
  refine ⟨(hw.block q k.map.lt fun h => by have := f5 q h; omega).trans k.map, k.mem.kept hw fun j h1 h2 => by have := lo j h1; have := ld j h2; omega, k.hh.kept hw fun h => by have := f5 qh h; omega, k.nn.kept hw fun h => by have := f5 qn h; omega, k.oo.kept hw fun h => by have := f5 qo h; omega, k.sws.kept hw fun j h1 h2 => by have := f4 j h1; have := f5 j h2; omega,
    hm, k.old, ⟨tagN W.heap.size 5 f, by rw [tagN_old (by omega)]; exact f0, by rw [tagN_old (by omega)]; exact f1, by rw [tagN_old (by omega)]; exact f2, by rw [tagN_old (by omega)]; exact f3, fun j h => by rw [tagN_old (by have := la j h; omega)]; exact f4 j h, fun j h => ?_⟩, k.q0,
    k.wrote.then hw fun j hj h => by have := ld j h; omega⟩
  rcases ho with ho | ho
  · rw [ho] at h; rw [tagN_old (by have := ld j h; omega)]; exact f5 j h
  · rw [ho] at h; cases h; rw [tagN_new hn]
theorem PlAt.cells (h : PlAt w q qh qn qo B b vw s hs ns os va vd sw hd W) {k : Nat} (hk : k < 4) : McCells q qh k (hs k) W := by
  obtain ⟨m0, m1, m2, m3, m4, _⟩ := h.map.facts
  obtain ⟨e0, e1, e2, e3, e4, _⟩ := h.hh.facts hk
  exact ⟨m0, m1, m2, m3, m4, e0, e1, e2, e3, e4⟩
theorem PlAt.satCells {k : Nat} (x : Sat (fun W => ∃ s, PlAt w q qh qn qo B b vw s hs ns os va vd sw hd W)) (hk : k < 4) : McCells q qh k (hs k) x.v := by
  obtain ⟨v, p⟩ := x
  obtain ⟨s1, h⟩ := p
  exact h.cells hk
/-- The stages of a step: the call (6), the store (8). -/
def PlD (w : World) (q qh qn qo B b : Nat) (vw : Value) (s s' : MS) (hs : Nat → HD) (k : Nat) (g : HD) (ns : Nat → Nat) (os : Nat → Bool) (va vd : Value) (sw hd : List Nat) (L : Nat → Bool) (W : World) : Prop :=
  PlAt w q qh qn qo B b vw (bif L 6 then s' else s) (bif L 8 then upd hs k g else hs) ns os va vd sw hd W
variable {s' : MS} {k : Nat} {g : HD} {L : Nat → Bool}
theorem PlD.start (hL : ∀ j, L j = false) (h : PlAt w q qh qn qo B b vw s hs ns os va vd sw hd W) : PlD w q qh qn qo B b vw s s' hs k g ns os va vd sw hd L W.drew := by
  unfold PlD; rw [hL 6, hL 8]; exact h.later (bdrew (bid W))
theorem PlD.reads (h : PlD w q qh qn qo B b vw s s' hs k g ns os va vd sw hd L W) (h8 : L 8 = false) : ∃ s, PlAt w q qh qn qo B b vw s hs ns os va vd sw hd W := by
  unfold PlD at h; rw [h8] at h; exact ⟨_, h⟩
theorem PlD.at6 (h : PlD w q qh qn qo B b vw s s' hs k g ns os va vd sw hd L W) (hL : L 6 = false) : PlAt w q qh qn qo B b vw s (bif L 8 then upd hs k g else hs) ns os va vd sw hd W := by
  unfold PlD at h; rw [hL] at h; exact h
theorem PlD.at8 (h : PlD w q qh qn qo B b vw s s' hs k g ns os va vd sw hd L W) (hL : L 8 = false) : PlAt w q qh qn qo B b vw (bif L 6 then s' else s) hs ns os va vd sw hd W := by
  unfold PlD at h; rw [hL] at h; exact h
theorem PlD.end_ (hall : ∀ j, j < 9 → L j = true) (h : PlD w q qh qn qo B b vw s s' hs k g ns os va vd sw hd L W) : PlAt w q qh qn qo B b vw s' (upd hs k g) ns os va vd sw hd W := by
  unfold PlD at h; rw [hall 6 (by decide), hall 8 (by decide)] at h; exact h
end

theorem updV_is {α : Type} (f : Nat → α) (k : Nat) (v : α) : updV f k v = updW f k v := rfl

/-- How many of the first k hands hold it. -/
def heldM (hs : Nat → HD) : Nat → Nat
  | 0 => 0
  | k + 1 => heldM hs k + if (hs k).s = 9 then 1 else 0
theorem heldM_le (hs : Nat → HD) (k : Nat) : heldM hs k ≤ k := by
  induction k with
  | zero => exact Nat.le_refl _
  | succ k ih => simp only [heldM]; split <;> omega
theorem SI.one {R : Nat} {s : MS} {hs : Nat → HD} {n : Nat → Nat} {q sw hd : List Nat} (h : SI R s hs n q sw hd) : heldM hs 4 ≤ 1 := by
  have key : ∀ i j, i < 4 → j < 4 → i ≠ j → (hs i).s = 9 → (hs j).s = 9 → False := fun i j hi hj hne a b => by
    have a' : 5 < (VS.of s hs).st i := by show 5 < (hs i).s; omega
    have b' : 5 < (VS.of s hs).st j := by show 5 < (hs j).s; omega
    obtain ⟨r, hr⟩ := h.pi.qi.first hi a'
    obtain ⟨r', hr'⟩ := h.pi.qi.first hj b'
    rw [hr] at hr'
    simp at hr'
    exact hne hr'.1
  simp only [heldM]
  by_cases h0 : (hs 0).s = 9 <;> by_cases h1 : (hs 1).s = 9 <;> by_cases h2 : (hs 2).s = 9 <;> by_cases h3 : (hs 3).s = 9 <;> simp only [h0, h1, h2, h3, if_true, if_false] <;> first | omega | exact absurd (key 0 1 (by omega) (by omega) (by omega) h0 h1) id | exact absurd (key 0 2 (by omega) (by omega) (by omega) h0 h2) id | exact absurd (key 0 3 (by omega) (by omega) (by omega) h0 h3) id | exact absurd (key 1 2 (by omega) (by omega) (by omega) h1 h2) id | exact absurd (key 1 3 (by omega) (by omega) (by omega) h1 h3) id | exact absurd (key 2 3 (by omega) (by omega) (by omega) h2 h3) id

/-- What the loop over the picks keeps. -/
def PlRel (w : World) (q qh qn qo B b : Nat) (vw : Value) (R len : Nat) (va vd i : Value) (W : World) : Prop :=
  ∃ (j : Nat) (s : MS) (hs : Nat → HD) (n : Nat → Nat) (os : Nat → Bool) (qq sw hd : List Nat), j ≤ len + 400 ∧ i = .int .i64 j ∧ SI R s hs n qq sw hd ∧ (∀ t, t < 4 → os t = decide (5 < (hs t).s)) ∧ Pot (VS.of s hs) qq n R len j ∧ (0 ≤ s.steps ∧ s.steps ≤ j) ∧ PlAt w q qh qn qo B b vw s hs n os va vd sw hd W
/-- .. and what a step of it comes to. -/
def PlMid (w : World) (q qh qn qo B b : Nat) (vw : Value) (R len j : Nat) (st : Int) (va vd : Value) (W : World) : Prop :=
  ∃ (s : MS) (hs : Nat → HD) (n : Nat → Nat) (os : Nat → Bool) (qq sw hd : List Nat), SI R s hs n qq sw hd ∧ (∀ t, t < 4 → os t = decide (5 < (hs t).s)) ∧ Pot (VS.of s hs) qq n R len (j + 1) ∧ s.steps = st + 1 ∧ PlAt w q qh qn qo B b vw s hs n os va vd sw hd W

end Go.Proofs.Ytmngpgocpamfgaa
