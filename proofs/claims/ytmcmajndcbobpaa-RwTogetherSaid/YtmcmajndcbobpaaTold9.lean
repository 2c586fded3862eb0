/-
  The document's example of the lock that is a queue.
-/
import Derived.Test.YtmcmajndcbobpaaMcsT
import Derived.Test.YtmcmajndcbobpaaMcsD
namespace Go.Proofs.Ytmcmajndcbobpaa
open Go.RowKit
attribute [local go_sem] Later.cell Later.frozen

theorem len_mcTake (m : PM) (s : MS) (h : HD) : (mcTake m s h).2.zs.length = s.zs.length := by
  unfold mcTake mcQueue
  repeat' split
  all_goals first | rfl | exact len_stored _ _ _ | exact len_loaded _ _ | exact len_swapped _ _ _ _
theorem len_mcDrop (m : PM) (s : MS) (h : HD) : (mcDrop m s h).2.zs.length = s.zs.length := by
  unfold mcDrop
  repeat' split
  all_goals first | rfl | exact len_stored _ _ _ | exact len_loaded _ _ | exact len_swapped _ _ _ _
theorem HandRet.mk {T E : TypeId} {h' : HD} {s' : MS} {B b : Nat} {vw : Value} {w : World} {e : Ending} {w' : World} (h : e = .returned h'.v) (hm : IsMem T E w' B b vw s') (hw : Wrote (MemS b vw) w w') : HandRet T E h' s' B b vw w e w' := ⟨h, hm, hw⟩

def tk9 : Nat → HD × MS
  | 0 => (⟨1, 1, 0, false, 0⟩, MS.new (zrow 48))
  | k + 1 => mcTake mp4 (tk9 k).2 (tk9 k).1
def td1 : HD × MS := mcDrop mp4 (tk9 4).2 (tk9 4).1
def td2 : HD × MS := mcDrop mp4 td1.2 td1.1
theorem tk9_eq : (tk9 4).1 = ⟨1, 1, 9, false, 0⟩ := sameH_iff.1 (by decide +kernel)
theorem td2_eq : td2.1 = ⟨1, 1, 0, false, 0⟩ := sameH_iff.1 (by decide +kernel)
theorem td2_steps : td2.2.steps = 6 := by decide +kernel
theorem tk9_len (k : Nat) : (tk9 k).2.zs.length = 48 := by
  induction k with
  | zero => exact zrow_len 48
  | succ k ih => show (mcTake _ _ _).2.zs.length = 48; rw [len_mcTake, ih]
theorem td1_len : td1.2.zs.length = 48 := by unfold td1; rw [len_mcDrop, tk9_len]
theorem id9 : idF mp4 1 1 = 4 := by decide

/-- A map, a memory, a hand. -/
structure T9 (w : World) (q b : Nat) (vw : Value) (q4 : Nat) (s : MS) (h : HD) (W : World) : Prop where
  mm : MapMem w q b vw s W
  hand : HandAt W q4 h
  far : ¬ MemS b vw q4
  ne : q4 ≠ q
  old : w.heap.size ≤ q4
section
variable {w : World} {q b : Nat} {vw : Value} {q4 : Nat} {s s' : MS} {h : HD} {W W' : World}
theorem T9.later (k : T9 w q b vw q4 s h W) (hb : Below W.heap.size W W') : T9 w q b vw q4 s h W' := ⟨k.mm.later hb, k.hand.below hb, k.far, k.ne, k.old⟩
theorem T9.next (k : T9 w q b vw q4 s h W) (hm : Mem W' w.heap.size b vw s') (hw : Wrote (MemS b vw) W W') : T9 w q b vw q4 s' h W' := ⟨k.mm.next hm hw, k.hand.kept hw k.far, k.far, k.ne, k.old⟩
theorem T9.set (k : T9 w q b vw q4 s h W) (g : HD) : T9 w q b vw q4 s g (((((W.setCell ⟨q4, 0, none⟩ (.int .i64 g.t)).setCell ⟨q4, 1, none⟩ (.int .i64 g.l)).setCell ⟨q4, 2, none⟩ (.int .i64 g.s)).setCell ⟨q4, 3, none⟩ (.bool g.rd)).setCell ⟨q4, 4, none⟩ (.int .i64 g.x)) := by
  have hw := (Wrote.refl (fun j => j = q4) W).set5 (q := q4) (fun _ => rfl) (.int .i64 g.t) (.int .i64 g.l) (.int .i64 g.s) (.bool g.rd) (.int .i64 g.x)
  exact ⟨⟨(hw.block q k.mm.map.lt (fun e => k.ne e.symm)).trans k.mm.map, k.mm.mem.kept hw fun j hj e => k.far (e ▸ hj), k.mm.qm, k.mm.q0, k.mm.below.trans (hw.below k.mm.below.size fun j hj e => by have := k.old; omega)⟩, k.hand.set5 g, k.far, k.ne, k.old⟩
/-- Another hand is written. -/
theorem T9.away (k : T9 w q b vw q4 s h W) {q5 : Nat} {g0 : HD} (hg : HandAt W q5 g0) (h5 : ¬ MemS b vw q5) (n1 : q5 ≠ q) (n2 : q5 ≠ q4) (n3 : w.heap.size ≤ q5) (g : HD) :
    T9 w q b vw q4 s h (((((W.setCell ⟨q5, 0, none⟩ (.int .i64 g.t)).setCell ⟨q5, 1, none⟩ (.int .i64 g.l)).setCell ⟨q5, 2, none⟩ (.int .i64 g.s)).setCell ⟨q5, 3, none⟩ (.bool g.rd)).setCell ⟨q5, 4, none⟩ (.int .i64 g.x)) ∧
    HandAt (((((W.setCell ⟨q5, 0, none⟩ (.int .i64 g.t)).setCell ⟨q5, 1, none⟩ (.int .i64 g.l)).setCell ⟨q5, 2, none⟩ (.int .i64 g.s)).setCell ⟨q5, 3, none⟩ (.bool g.rd)).setCell ⟨q5, 4, none⟩ (.int .i64 g.x)) q5 g := by
  have hw := (Wrote.refl (fun j => j = q5) W).set5 (q := q5) (fun _ => rfl) (.int .i64 g.t) (.int .i64 g.l) (.int .i64 g.s) (.bool g.rd) (.int .i64 g.x)
  exact ⟨⟨⟨(hw.block q k.mm.map.lt (fun e => n1 e.symm)).trans k.mm.map, k.mm.mem.kept hw fun j hj e => h5 (e ▸ hj), k.mm.qm, k.mm.q0, k.mm.below.trans (hw.below k.mm.below.size fun j hj e => by omega)⟩, k.hand.kept hw (fun e => n2 e.symm), k.far, k.ne, k.old⟩, hg.set5 g⟩
def T9S (q q4 : Nat) (h : HD) (W : World) : Prop :=
  W.cell? ⟨q, 0, none⟩ = some (.int .i64 2) ∧ W.cell? ⟨q, 1, none⟩ = some (.int .i64 2) ∧ W.cell? ⟨q, 2, none⟩ = some (.int .i64 4) ∧ W.cell? ⟨q, 3, none⟩ = some (.int .i64 0) ∧ W.cell? ⟨q, 4, none⟩ = some (.int .i64 2) ∧
  W.cell? ⟨q4, 0, none⟩ = some (.int .i64 h.t) ∧ W.cell? ⟨q4, 1, none⟩ = some (.int .i64 h.l) ∧ W.cell? ⟨q4, 2, none⟩ = some (.int .i64 h.s) ∧ W.cell? ⟨q4, 3, none⟩ = some (.bool h.rd) ∧ W.cell? ⟨q4, 4, none⟩ = some (.int .i64 h.x)
theorem T9.cells (k : T9 w q b vw q4 s h W) : T9S q q4 h W := by
  obtain ⟨m0, m1, m2, m3, m4, _⟩ := k.mm.map.facts
  obtain ⟨d0, d1, d2, d3, d4, _⟩ := k.hand.facts
  exact ⟨m0, m1, m2, m3, m4, d0, d1, d2, d3, d4⟩
/-- A new block is nobody's. -/
theorem T9.fresh (k : T9 w q b vw q4 s h W) : ¬ MemS b vw W.heap.size ∧ W.heap.size ≠ q ∧ W.heap.size ≠ q4 ∧ w.heap.size ≤ W.heap.size :=
  ⟨fun e => absurd (k.mm.mem.hold _ e) (Nat.lt_irrefl _), fun e => by have := k.mm.map.lt; omega, fun e => by have := k.hand.lt; omega, k.mm.below.size⟩
end

/-- What the region of the two drops comes to. -/
def T9D (w : World) (q b : Nat) (vw : Value) (q4 : Nat) (v : Value) (W : World) : Prop :=
  ∃ q5, v = .pointer (some ⟨q5, 0, none⟩) ∧ T9 w q b vw q4 td2.2 ⟨1, 1, 9, false, 0⟩ W ∧ HandAt W q5 ⟨1, 1, 0, false, 0⟩

end Go.Proofs.Ytmcmajndcbobpaa
