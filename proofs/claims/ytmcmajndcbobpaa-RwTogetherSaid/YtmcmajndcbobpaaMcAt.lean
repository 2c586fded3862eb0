/-
  A memory, the map and four hands: what a law of a lock keeps from step to step.
-/
import Derived.Test.YtmcmajndcbobpaaHandsM
import Derived.Test.YtmcmajndcbobpaaStage
import Derived.Test.YtmcmajndcbobpaaTold9
namespace Go.Proofs.Ytmcmajndcbobpaa
open Go.RowKit
attribute [local go_sem] Later.cell Later.frozen

structure McAt (w : World) (q qh b : Nat) (vw : Value) (s : MS) (hs : Nat → HD) (W : World) : Prop where
  map : MapAt 26 W q mp4
  mem : Mem W w.heap.size b vw s
  hh : FourAt W qh hs
  fr : ∀ k, MemS b vw k → k ≠ q ∧ k ≠ qh
  ne : q ≠ qh
  q0 : w.heap.size ≤ q ∧ w.heap.size ≤ qh
  below : Below w.heap.size w W
section
variable {w : World} {q qh b : Nat} {vw : Value} {s : MS} {hs : Nat → HD} {W W' : World}
theorem McAt.later (k : McAt w q qh b vw s hs W) (hb : Below W.heap.size W W') : McAt w q qh b vw s hs W' :=
  ⟨k.map.below hb, k.mem.kept (Wrote.of_below hb (fun _ => False)) (fun _ _ h => h), k.hh.below hb, k.fr, k.ne, k.q0, bthen k.below hb⟩
theorem McAt.one {s' : MS} (k : McAt w q qh b vw s hs W) (hm : Mem W' w.heap.size b vw s') (hw : Wrote (MemS b vw) W W') : McAt w q qh b vw s' hs W' :=
  ⟨(hw.block q k.map.lt fun h => (k.fr q h).1 rfl).trans k.map, hm, k.hh.kept hw fun h => (k.fr qh h).2 rfl, k.fr, k.ne, k.q0, k.below.trans (hw.below k.below.size k.mem.old)⟩
theorem McAt.set (k : McAt w q qh b vw s hs W) {i : Nat} (hi : i < 4) (g : HD) :
    McAt w q qh b vw s (upd hs i g) (((((W.setCell ⟨qh, i * 5, none⟩ (.int .i64 g.t)).setCell ⟨qh, i * 5 + 1, none⟩ (.int .i64 g.l)).setCell ⟨qh, i * 5 + 2, none⟩ (.int .i64 g.s)).setCell ⟨qh, i * 5 + 3, none⟩ (.bool g.rd)).setCell ⟨qh, i * 5 + 4, none⟩ (.int .i64 g.x)) := by
  have hw := (Wrote.refl (fun j => j = qh) W).setAt5 (q := qh) (o0 := i * 5) (o1 := i * 5 + 1) (o2 := i * 5 + 2) (o3 := i * 5 + 3) (o4 := i * 5 + 4) (fun _ => rfl) (.int .i64 g.t) (.int .i64 g.l) (.int .i64 g.s) (.bool g.rd) (.int .i64 g.x)
  exact ⟨(hw.block q k.map.lt k.ne).trans k.map, k.mem.kept hw fun j h e => (k.fr j h).2 e, k.hh.set hi g, k.fr, k.ne, k.q0, k.below.trans (hw.below k.below.size fun j hj e => by have := k.q0.2; omega)⟩
def McCells (q qh k : Nat) (h : HD) (W : World) : Prop :=
  W.cell? ⟨q, 0, none⟩ = some (.int .i64 2) ∧ W.cell? ⟨q, 1, none⟩ = some (.int .i64 2) ∧ W.cell? ⟨q, 2, none⟩ = some (.int .i64 4) ∧ W.cell? ⟨q, 3, none⟩ = some (.int .i64 0) ∧ W.cell? ⟨q, 4, none⟩ = some (.int .i64 2) ∧
  W.cell? ⟨qh, k * 5, none⟩ = some (.int .i64 h.t) ∧ W.cell? ⟨qh, k * 5 + 1, none⟩ = some (.int .i64 h.l) ∧ W.cell? ⟨qh, k * 5 + 2, none⟩ = some (.int .i64 h.s) ∧ W.cell? ⟨qh, k * 5 + 3, none⟩ = some (.bool h.rd) ∧ W.cell? ⟨qh, k * 5 + 4, none⟩ = some (.int .i64 h.x)
theorem McAt.cells (h : McAt w q qh b vw s hs W) {k : Nat} (hk : k < 4) : McCells q qh k (hs k) W := by
  obtain ⟨m0, m1, m2, m3, m4, _⟩ := h.map.facts
  obtain ⟨e0, e1, e2, e3, e4, _⟩ := h.hh.facts hk
  exact ⟨m0, m1, m2, m3, m4, e0, e1, e2, e3, e4⟩
theorem McAt.satCells {k : Nat} (x : Sat (fun W => ∃ s, McAt w q qh b vw s hs W)) (hk : k < 4) : McCells q qh k (hs k) x.v := by
  obtain ⟨v, p⟩ := x
  obtain ⟨s1, h⟩ := p
  exact h.cells hk
/-- The stages of a step: the call (6), the store (8). -/
def McD (w : World) (q qh b : Nat) (vw : Value) (s s' : MS) (hs : Nat → HD) (k : Nat) (g : HD) (L : Nat → Bool) (W : World) : Prop :=
  McAt w q qh b vw (bif L 6 then s' else s) (bif L 8 then upd hs k g else hs) W
variable {s' : MS} {k : Nat} {g : HD} {L : Nat → Bool}
theorem McD.start (hL : ∀ j, L j = false) (h : McAt w q qh b vw s hs W) : McD w q qh b vw s s' hs k g L W.drew := by
  unfold McD; rw [hL 6, hL 8]; exact h.later (bdrew (bid W))
theorem McD.reads (h : McD w q qh b vw s s' hs k g L W) (h8 : L 8 = false) : ∃ s, McAt w q qh b vw s hs W := by
  unfold McD at h; rw [h8] at h; exact ⟨_, h⟩
theorem McD.at6 (h : McD w q qh b vw s s' hs k g L W) (hL : L 6 = false) : McAt w q qh b vw s (bif L 8 then upd hs k g else hs) W := by
  unfold McD at h; rw [hL] at h; exact h
theorem McD.at8 (h : McD w q qh b vw s s' hs k g L W) (hL : L 8 = false) : McAt w q qh b vw (bif L 6 then s' else s) hs W := by
  unfold McD at h; rw [hL] at h; exact h
theorem McD.end_ (hall : ∀ j, j < 9 → L j = true) (h : McD w q qh b vw s s' hs k g L W) : McAt w q qh b vw s' (upd hs k g) W := by
  unfold McD at h; rw [hall 6 (by decide), hall 8 (by decide)] at h; exact h
end

/-- The first k hands are at that lock. -/
def firstM (lo : Int) (k : Nat) : Nat → HD := fun j => if j < k then ⟨j, lo, 0, false, 0⟩ else h0
theorem firstM_zero (lo : Int) : firstM lo 0 = fun _ => h0 := by funext j; simp [firstM]
theorem firstM_succ (lo : Int) (k : Nat) : upd (firstM lo k) k ⟨k, lo, 0, false, 0⟩ = firstM lo (k + 1) := by
  funext j
  by_cases e : j = k
  · subst e; simp [upd, firstM]
  · simp only [upd, if_neg e, firstM]
    by_cases h : j < k
    · rw [if_pos h, if_pos (by omega)]
    · rw [if_neg h, if_neg (by omega)]
theorem firstM_at {lo : Int} {k : Nat} (hk : k < 4) : firstM lo 4 k = ⟨k, lo, 0, false, 0⟩ := by unfold firstM; rw [if_pos hk]

theorem u64_from0 (n : Int) : 0 ≤ IntKind.u64.wrap n := by
  rw [IntKind.wrap_u64]
  omega
theorem pick_of4 (z : Int) : ∃ k : Nat, k < 4 ∧ wrap64 ((IntKind.u64.wrap z).tmod 4) = (k : Int) := by
  have h := u64_from0 z
  generalize IntKind.u64.wrap z = u at *
  have e : u.tmod 4 = u % 4 := Int.tmod_eq_emod_of_nonneg h
  rw [e, wrap_small (by omega) (by omega)]
  exact ⟨(u % 4).toNat, by omega, by omega⟩

end Go.Proofs.Ytmcmajndcbobpaa
