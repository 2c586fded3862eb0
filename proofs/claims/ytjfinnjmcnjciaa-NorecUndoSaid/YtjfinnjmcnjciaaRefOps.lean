/-
  The document's own memory (syncoperef2): its accesses.
-/
import Derived.Test.YtjfinnjmcnjciaaRef
import Derived.StillTailTactics
namespace Go.Proofs.Ytjfinnjmcnjciaa
open Go.RowKit

theorem IsMem.counted0 {T E : TypeId} {w : World} {B b : Nat} {vw : Value} {s : MS} (h : IsMem T E w B b vw s) (k a v o : Int) (d : Bool) :
    IsMem T E ((((((w.setCell ⟨b, 1, none⟩ (.int .i64 (wrap64 (s.steps + 1)))).setCell ⟨b, 2, none⟩ (.int .i64 k)).setCell ⟨b, 3, none⟩ (.int .i64 a)).setCell ⟨b, 4, none⟩ (.int .i64 v)).setCell ⟨b, 5, none⟩ (.int .i64 o)).setCell ⟨b, 6, none⟩ (.bool d)) B b vw (s.acc k a v o d) ∧
    Wrote (fun k => k = b) w ((((((w.setCell ⟨b, 1, none⟩ (.int .i64 (wrap64 (s.steps + 1)))).setCell ⟨b, 2, none⟩ (.int .i64 k)).setCell ⟨b, 3, none⟩ (.int .i64 a)).setCell ⟨b, 4, none⟩ (.int .i64 v)).setCell ⟨b, 5, none⟩ (.int .i64 o)).setCell ⟨b, 6, none⟩ (.bool d)) := by
  have hw : Wrote (fun k => k = b) w ((((((w.setCell ⟨b, 1, none⟩ (.int .i64 (wrap64 (s.steps + 1)))).setCell ⟨b, 2, none⟩ (.int .i64 k)).setCell ⟨b, 3, none⟩ (.int .i64 a)).setCell ⟨b, 4, none⟩ (.int .i64 v)).setCell ⟨b, 5, none⟩ (.int .i64 o)).setCell ⟨b, 6, none⟩ (.bool d)) := by
    iterate 6 refine Wrote.setCell ?_ (by intro _; rfl) _
    exact Wrote.refl _ w
  refine ⟨h.recell rfl ?_ hw, hw⟩
  rw [blk_setCell (blk_setCell (blk_setCell (blk_setCell (blk_setCell (blk_setCell h.blk _ _) _ _) _ _) _ _) _ _) _ _]
  rfl

theorem mem_word {T E : TypeId} {w : World} {B b : Nat} {vw : Value} {s : MS} (k : IsMem T E w B b vw s) {g L cap i : Nat} (hv : vw = .slice (some ⟨g, 0, none⟩) L cap) (hL : s.zs.length = L) (hi : i < L) :
    w.cell? ⟨b, 0, none⟩ = some (.slice (some ⟨g, 0, none⟩) L cap) ∧ w.cell? ⟨g, i, none⟩ = some (.int .i64 (s.zs.getD i 0)) ∧ w.frozen? ⟨g, i, none⟩ = false := by
  subst hL
  obtain ⟨g', cap', hv', _, _, _, h1, h2⟩ := k.word hi
  rw [hv] at hv'
  simp only [Value.slice.injEq, Option.some.injEq, Addr.mk.injEq, and_true, true_and] at hv'
  obtain ⟨rfl, rfl⟩ := hv'
  exact ⟨by rw [k.facts.1.1, hv], h1, h2⟩

/-- What a store into a word leaves, behind a count: nothing else. -/
theorem ref_store {w w' : World} {B b : Nat} {vw : Value} {s : MS} (k : Ref w' B b vw s) (hw : Wrote (fun q => q = b) w w') {g cap : Nat} (hv : vw = .slice (some ⟨g, 0, none⟩) s.zs.length cap) (i : Nat) (v : Int) :
    Ref (w'.setCell ⟨g, i, none⟩ (.int .i64 v)) B b vw (s.put i v) ∧ Wrote (MemS b vw) w (w'.setCell ⟨g, i, none⟩ (.int .i64 v)) :=
  ⟨k.store hv i v, (hw.mono (S' := MemS b vw) fun _ _ h => .inl h).setCell (p := ⟨g, i, none⟩) (by intro _; exact .inr (by simp [hv, Value.ownBlock])) _⟩

end Go.Proofs.Ytjfinnjmcnjciaa
