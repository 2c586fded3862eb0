/-
  Both memories, the map and two arrays of hands: what a law of a lock keeps from step to step.
-/
import Derived.Test.YtpphllijbbcdcaaHands
namespace Go.Proofs.Ytpphllijbbcdcaa
open Go.RowKit
attribute [local go_sem] Later.cell Later.frozen

structure RunAt (w : World) (q qa qb b : Nat) (vw : Value) (c : Nat) (vr : Value) (s t : MS) (hs ks : Nat → HD) (W : World) : Prop where
  map : MapAt 26 W q mp4
  pair : Pair W w.heap.size b vw c vr s t
  ah : FourAt W qa hs
  bh : FourAt W qb ks
  fr : ∀ k, PairS b vw c vr k → k ≠ q ∧ k ≠ qa ∧ k ≠ qb
  ne : qa ≠ qb ∧ q ≠ qa ∧ q ≠ qb
  q0 : w.heap.size ≤ q ∧ w.heap.size ≤ qa ∧ w.heap.size ≤ qb
  below : Below w.heap.size w W

section
variable {w : World} {q qa qb b : Nat} {vw : Value} {c : Nat} {vr : Value} {s t : MS} {hs ks : Nat → HD} {W W' : World}
theorem RunAt.later (k : RunAt w q qa qb b vw c vr s t hs ks W) (hb : Below W.heap.size W W') : RunAt w q qa qb b vw c vr s t hs ks W' :=
  ⟨k.map.below hb, k.pair.below hb, k.ah.below hb, k.bh.below hb, k.fr, k.ne, k.q0, bthen k.below hb⟩
theorem RunAt.drew (k : RunAt w q qa qb b vw c vr s t hs ks W) : RunAt w q qa qb b vw c vr s t hs ks W.drew := k.later (bdrew (bid W))
theorem RunAt.drewN (k : RunAt w q qa qb b vw c vr s t hs ks W) (n : Nat) : RunAt w q qa qb b vw c vr s t hs ks (W.drewN n) := k.later ⟨rfl, rfl, rfl, Nat.le_refl _, fun _ _ => rfl⟩
theorem RunAt.one {s' : MS} (k : RunAt w q qa qb b vw c vr s t hs ks W) (hm : Mem W' w.heap.size b vw s') (hw : Wrote (MemS b vw) W W') : RunAt w q qa qb b vw c vr s' t hs ks W' :=
  ⟨(hw.block q k.map.lt fun h => (k.fr q (.inl h)).1 rfl).trans k.map, k.pair.one hm hw, k.ah.kept hw fun h => (k.fr qa (.inl h)).2.1 rfl, k.bh.kept hw fun h => (k.fr qb (.inl h)).2.2 rfl, k.fr, k.ne, k.q0, k.below.trans (hw.below k.below.size k.pair.mem.old)⟩
theorem RunAt.two {t' : MS} (k : RunAt w q qa qb b vw c vr s t hs ks W) (hm : Ref W' w.heap.size c vr t') (hw : Wrote (MemS c vr) W W') : RunAt w q qa qb b vw c vr s t' hs ks W' :=
  ⟨(hw.block q k.map.lt fun h => (k.fr q (.inr h)).1 rfl).trans k.map, k.pair.two hm hw, k.ah.kept hw fun h => (k.fr qa (.inr h)).2.1 rfl, k.bh.kept hw fun h => (k.fr qb (.inr h)).2.2 rfl, k.fr, k.ne, k.q0, k.below.trans (hw.below k.below.size k.pair.ref.old)⟩
theorem RunAt.setA (k : RunAt w q qa qb b vw c vr s t hs ks W) {i : Nat} (hi : i < 4) (g : HD) :
    RunAt w q qa qb b vw c vr s t (upd hs i g) ks (((((W.setCell ⟨qa, i * 5, none⟩ (.int .i64 g.t)).setCell ⟨qa, i * 5 + 1, none⟩ (.int .i64 g.l)).setCell ⟨qa, i * 5 + 2, none⟩ (.int .i64 g.s)).setCell ⟨qa, i * 5 + 3, none⟩ (.bool g.rd)).setCell ⟨qa, i * 5 + 4, none⟩ (.int .i64 g.x)) := by
  have hw := (Wrote.refl (fun j => j = qa) W).setAt5 (q := qa) (o0 := i * 5) (o1 := i * 5 + 1) (o2 := i * 5 + 2) (o3 := i * 5 + 3) (o4 := i * 5 + 4) (fun _ => rfl) (.int .i64 g.t) (.int .i64 g.l) (.int .i64 g.s) (.bool g.rd) (.int .i64 g.x)
  exact ⟨(hw.block q k.map.lt k.ne.2.1).trans k.map, ⟨k.pair.mem.kept hw fun j h e => (k.fr j (.inl h)).2.1 e, k.pair.ref.kept hw fun j h e => (k.fr j (.inr h)).2.1 e, k.pair.apart⟩, k.ah.set hi g, k.bh.kept hw (Ne.symm k.ne.1), k.fr, k.ne, k.q0, k.below.trans (hw.below k.below.size fun j hj e => by have := k.q0.2.1; omega)⟩
theorem RunAt.setB (k : RunAt w q qa qb b vw c vr s t hs ks W) {i : Nat} (hi : i < 4) (g : HD) :
    RunAt w q qa qb b vw c vr s t hs (upd ks i g) (((((W.setCell ⟨qb, i * 5, none⟩ (.int .i64 g.t)).setCell ⟨qb, i * 5 + 1, none⟩ (.int .i64 g.l)).setCell ⟨qb, i * 5 + 2, none⟩ (.int .i64 g.s)).setCell ⟨qb, i * 5 + 3, none⟩ (.bool g.rd)).setCell ⟨qb, i * 5 + 4, none⟩ (.int .i64 g.x)) := by
  have hw := (Wrote.refl (fun j => j = qb) W).setAt5 (q := qb) (o0 := i * 5) (o1 := i * 5 + 1) (o2 := i * 5 + 2) (o3 := i * 5 + 3) (o4 := i * 5 + 4) (fun _ => rfl) (.int .i64 g.t) (.int .i64 g.l) (.int .i64 g.s) (.bool g.rd) (.int .i64 g.x)
  exact ⟨(hw.block q k.map.lt k.ne.2.2).trans k.map, ⟨k.pair.mem.kept hw fun j h e => (k.fr j (.inl h)).2.2 e, k.pair.ref.kept hw fun j h e => (k.fr j (.inr h)).2.2 e, k.pair.apart⟩, k.ah.kept hw k.ne.1, k.bh.set hi g, k.fr, k.ne, k.q0, k.below.trans (hw.below k.below.size fun j hj e => by have := k.q0.2.2; omega)⟩
end

/-- The first k hands are at lock 1. -/
def first (lo : Int) (k : Nat) : Nat → HD := fun j => if j < k then ⟨j, lo, 0, false, 0⟩ else h0
theorem first_zero (lo : Int) : first lo 0 = fun _ => h0 := by funext j; simp [first]
theorem first_succ (lo : Int) (k : Nat) : upd (first lo k) k ⟨k, lo, 0, false, 0⟩ = first lo (k + 1) := by
  funext j
  by_cases e : j = k
  · subst e; simp [upd, first]
  · simp only [upd, if_neg e, first]
    by_cases h : j < k
    · rw [if_pos h, if_pos (by omega)]
    · rw [if_neg h, if_neg (by omega)]

theorem inv_start (lo : Int) (p1 p2 : Nat) (a1 : mp4.at_ 3 lo 1 = p1) (a2 : mp4.at_ 3 lo 2 = p2) (l0 : 0 ≤ lo) (l1 : lo < 2) (q1 : p1 < 48) (q2 : p2 < 48) (ne : p1 ≠ p2) : TInv lo p1 p2 0 (MS.new (zrow 48)) (first lo 4) := by
  have hz : ∀ p, (MS.new (zrow 48)).zs.getD p 0 = 0 := fun p => by
    show (List.replicate 48 (0 : Int)).getD p 0 = 0
    rw [List.getD_eq_getElem?_getD, List.getElem?_replicate]
    split <;> rfl
  refine ⟨a1, a2, l0, l1, q1, q2, ne, zrow_len 48, fun k hk => ?_, fun j k hj hk hne h1 h2 => ?_, by rw [hz]; decide, by rw [hz, hz]; decide, by rw [hz]; decide⟩
  · have e : first lo 4 k = ⟨k, lo, 0, false, 0⟩ := by unfold first; rw [if_pos hk]
    rw [e]
    exact ⟨rfl, rfl, .inl rfl⟩
  · have e : first lo 4 j = ⟨j, lo, 0, false, 0⟩ := by unfold first; rw [if_pos hj]
    rw [e] at h1
    exact absurd rfl h1

end Go.Proofs.Ytpphllijbbcdcaa
