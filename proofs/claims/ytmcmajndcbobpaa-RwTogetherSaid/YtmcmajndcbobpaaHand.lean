/-
  A hand of a lock as five numbers; the plain facts on it.
-/
import Derived.Test.YtmcmajndcbobpaaPair
import Derived.Test.YtmcmajndcbobpaaRefs2
import Derived.Laws.StructEq
import Derived.Deep.DeepCutAuto
import Derived.Deep.CutBlock
import Derived.Deep.RegionHeld3
import Derived.BigQuiet
namespace Go.Proofs.Ytmcmajndcbobpaa
open Go.RowKit

/-- The world under one name. -/
theorem wp_rename {c : Code} {P : Program} {Q : Exit → Act → World → Prop} {a : Act} {w : World} (R : World → Prop) (h : R w) (hc : ∀ w', R w' → c.wp P Q a w') : c.wp P Q a w := hc w h

structure HD where
  t : Int
  l : Int
  s : Int
  rd : Bool
  x : Int

@[reducible] def HD.v (h : HD) : Value := .agg #[.int .i64 h.t, .int .i64 h.l, .int .i64 h.s, .bool h.rd, .int .i64 h.x]
def HD.cells (h : HD) : Array Value := #[.int .i64 h.t, .int .i64 h.l, .int .i64 h.s, .bool h.rd, .int .i64 h.x]

/-- A hand of these threads and locks. -/
def mayH (m : PM) (h : HD) : Prop := m.Ok ∧ 0 ≤ h.t ∧ h.t < m.t ∧ 0 ≤ h.l ∧ h.l < m.l
instance (m : PM) (h : HD) : Decidable (mayH m h) := by unfold mayH; infer_instance

def sameH (a b : HD) : Bool := (a.t == b.t) && (a.l == b.l) && (a.s == b.s) && (a.rd == b.rd) && (a.x == b.x)
theorem sameH_iff {a b : HD} : sameH a b = true ↔ a = b := by
  obtain ⟨t, l, s, r, x⟩ := a
  obtain ⟨t', l', s', r', x'⟩ := b
  simp [sameH, and_assoc]
theorem sameH_refl (a : HD) : sameH a a = true := sameH_iff.2 rfl

theorem eq_hand (t l s x t' l' s' x' : Int) (r r' : Bool) (w : World) :
    (binOp .eql 24 (.agg #[.int .i64 t, .int .i64 l, .int .i64 s, .bool r, .int .i64 x]) (.agg #[.int .i64 t', .int .i64 l', .int .i64 s', .bool r', .int .i64 x'])).run Try.prog w = .ok (.bool (sameH ⟨t, l, s, r, x⟩ ⟨t', l', s', r', x'⟩)) w := by
  have u3 := Try.underlying3
  have a3 := Try.isAgg3
  have z3 := Try.sizeOf3
  have u2 := Try.underlying2
  have a2 := Try.isAgg2
  have z2 := Try.sizeOf2
  have u4 := Try.underlying4
  have a4 := Try.isAgg4
  have z4 := Try.sizeOf4
  have hS : Try.prog.underlying 24 = some (.struct (Try.prog.fieldsOf 24)) := by kernel_rfl
  have hp : Try.prog.stoodInHeld 24 = false := by kernel_rfl
  rw [run_eql_struct, show (10000 : Nat) = 9999 + 1 from rfl, run_equalIn_agg w 9999 24 _ _ hS hp]
  simp only [Program.fieldsOf, Try.underlying24]
  go_simp
  unfold sameH
  by_cases h1 : t = t' <;> by_cases h2 : l = l' <;> by_cases h3 : s = s' <;> by_cases h4 : r = r' <;> by_cases h5 : x = x' <;> simp [h1, h2, h3, h4, h5]
theorem neq_hand (t l s x t' l' s' x' : Int) (r r' : Bool) (w : World) :
    (binOp .neq 24 (.agg #[.int .i64 t, .int .i64 l, .int .i64 s, .bool r, .int .i64 x]) (.agg #[.int .i64 t', .int .i64 l', .int .i64 s', .bool r', .int .i64 x'])).run Try.prog w = .ok (.bool (!sameH ⟨t, l, s, r, x⟩ ⟨t', l', s', r', x'⟩)) w := by
  have u3 := Try.underlying3
  have a3 := Try.isAgg3
  have z3 := Try.sizeOf3
  have u2 := Try.underlying2
  have a2 := Try.isAgg2
  have z2 := Try.sizeOf2
  have u4 := Try.underlying4
  have a4 := Try.isAgg4
  have z4 := Try.sizeOf4
  have hS : Try.prog.underlying 24 = some (.struct (Try.prog.fieldsOf 24)) := by kernel_rfl
  have hp : Try.prog.stoodInHeld 24 = false := by kernel_rfl
  rw [run_neq_struct, show (10000 : Nat) = 9999 + 1 from rfl, run_equalIn_agg w 9999 24 _ _ hS hp]
  simp only [Program.fieldsOf, Try.underlying24]
  go_simp
  unfold sameH
  by_cases h1 : t = t' <;> by_cases h2 : l = l' <;> by_cases h3 : s = s' <;> by_cases h4 : r = r' <;> by_cases h5 : x = x' <;> simp [h1, h2, h3, h4, h5]
theorem guard_hand : Try.prog.eqGuardType Try.prog.depth 24 = false := by kernel_rfl

theorem lock_in {m : PM} {h : HD} (hm : mayH m h) {p : Int} (p0 : 0 ≤ p) (p1 : p < 6) : m.at_ 3 h.l p = m.from_ 3 + h.l * 6 + p ∧ 0 ≤ m.at_ 3 h.l p ∧ m.at_ 3 h.l p < m.size := by
  obtain ⟨ho, _, _, l0, l1⟩ := hm
  have e := PM.at_in ho (k := 3) (i := h.l) (p := p) l0 (by simp only [PM.many]; omega) p0 (by simp only [PM.each]; omega)
  have h4 := ho.l2
  have htl := m.tl ho
  refine ⟨e, ?_⟩
  rw [m.size_ok ho]
  rw [e]
  obtain ⟨s1, s2, l1', l2, t1, t2, c1, c2, d1, d2⟩ := ho
  obtain ⟨h1, h2⟩ := htl
  simp only [PM.from_, PM.each]
  refine ⟨?_, ?_⟩ <;> omega
theorem lock_out {m : PM} {l p : Int} (h : l < 0 ∨ m.l ≤ l) : m.at_ 3 l p = -1 := PM.at_out (by rcases h with h | h; exact .inr (.inl h); exact .inr (.inr (.inl h)))
theorem thread_in {m : PM} (ho : m.Ok) {i p : Int} (i0 : 0 ≤ i) (i1 : i < m.t) (p0 : 0 ≤ p) (p1 : p < 2) : 0 ≤ m.at_ 4 i p ∧ m.at_ 4 i p < m.size := by
  have e := PM.at_in ho (k := 4) (i := i) (p := p) i0 (by simp only [PM.many]; omega) p0 (by simp only [PM.each]; omega)
  have htl := m.tl ho
  rw [m.size_ok ho, e]
  obtain ⟨s1, s2, l1', l2, t1, t2, c1, c2, d1, d2⟩ := ho
  obtain ⟨h1, h2⟩ := htl
  simp only [PM.from_, PM.each]
  refine ⟨?_, ?_⟩ <;> omega
theorem thread_out {m : PM} {i p : Int} (h : i < 0 ∨ m.t ≤ i) : m.at_ 4 i p = -1 := PM.at_out (by rcases h with h | h; exact .inr (.inl h); exact .inr (.inr (.inl h)))

theorem Wrote.of_eq {w w' : World} (h : w = w') (S : Nat → Prop) : Wrote S w w' := h ▸ Wrote.refl S w

/-- Block q is a hand. -/
def HandAt (w : World) (q : Nat) (h : HD) : Prop := w.heap[q]? = some (.cells h.cells 24 (0, 0))
theorem HandAt.lt {w : World} {q : Nat} {h : HD} (k : HandAt w q h) : q < w.heap.size := lt_of_block k
theorem HandAt.new (w : World) (h : HD) : HandAt (w.alloc (.cells h.cells 24)) w.heap.size h := heap_alloc_new _ _
theorem HandAt.kept {S : Nat → Prop} {w w' : World} {q : Nat} {h : HD} (k : HandAt w q h) (hw : Wrote S w w') (hs : ¬ S q) : HandAt w' q h := (hw.block q k.lt hs).trans k
theorem HandAt.below {w w' : World} {q : Nat} {h : HD} (k : HandAt w q h) (hb : Below w.heap.size w w') : HandAt w' q h := (hb.block q k.lt).trans k
theorem HandAt.facts {w : World} {q : Nat} {t l s x : Int} {r : Bool} (k : HandAt w q ⟨t, l, s, r, x⟩) :
    w.cell? ⟨q, 0, none⟩ = some (.int .i64 t) ∧ w.cell? ⟨q, 1, none⟩ = some (.int .i64 l) ∧ w.cell? ⟨q, 2, none⟩ = some (.int .i64 s) ∧ w.cell? ⟨q, 3, none⟩ = some (.bool r) ∧ w.cell? ⟨q, 4, none⟩ = some (.int .i64 x) ∧ (∀ i, w.frozen? ⟨q, i, none⟩ = false) :=
  ⟨cell_of_blk k 0, cell_of_blk k 1, cell_of_blk k 2, cell_of_blk k 3, cell_of_blk k 4, fun i => frozen_of_blk k i⟩
theorem HandAt.setS {w : World} {q : Nat} {t l s x : Int} {r : Bool} (k : HandAt w q ⟨t, l, s, r, x⟩) (y : Int) : HandAt (w.setCell ⟨q, 2, none⟩ (.int .i64 y)) q ⟨t, l, y, r, x⟩ := by
  have := blk_setCell k 2 (.int .i64 y)
  exact this
theorem HandAt.setX {w : World} {q : Nat} {t l s x : Int} {r : Bool} (k : HandAt w q ⟨t, l, s, r, x⟩) (y : Int) : HandAt (w.setCell ⟨q, 4, none⟩ (.int .i64 y)) q ⟨t, l, s, r, y⟩ := by
  have := blk_setCell k 4 (.int .i64 y)
  exact this
theorem HandAt.set5 {w : World} {q : Nat} {g : HD} (k : HandAt w q g) (h : HD) :
    HandAt (((((w.setCell ⟨q, 0, none⟩ (.int .i64 h.t)).setCell ⟨q, 1, none⟩ (.int .i64 h.l)).setCell ⟨q, 2, none⟩ (.int .i64 h.s)).setCell ⟨q, 3, none⟩ (.bool h.rd)).setCell ⟨q, 4, none⟩ (.int .i64 h.x)) q h :=
  blk_setCell (blk_setCell (blk_setCell (blk_setCell (blk_setCell k 0 _) 1 _) 2 _) 3 _) 4 _
theorem Wrote.set5 {S : Nat → Prop} {w W : World} (hw : Wrote S w W) {q : Nat} (hq : q < w.heap.size → S q) (a b c d e : Value) :
    Wrote S w (((((W.setCell ⟨q, 0, none⟩ a).setCell ⟨q, 1, none⟩ b).setCell ⟨q, 2, none⟩ c).setCell ⟨q, 3, none⟩ d).setCell ⟨q, 4, none⟩ e) :=
  ((((hw.setCell (p := ⟨q, 0, none⟩) hq a).setCell (p := ⟨q, 1, none⟩) hq b).setCell (p := ⟨q, 2, none⟩) hq c).setCell (p := ⟨q, 3, none⟩) hq d).setCell (p := ⟨q, 4, none⟩) hq e

/-- What a step of a hand comes to: the hand, and what the memory holds. -/
def HandRet (T E : TypeId) (h' : HD) (s' : MS) (B b : Nat) (vw : Value) (w : World) (e : Ending) (w' : World) : Prop :=
  e = .returned h'.v ∧ IsMem T E w' B b vw s' ∧ Wrote (MemS b vw) w w'
theorem HandRet.done {T E : TypeId} {h' : HD} {s' : MS} {B b : Nat} {vw : Value} {w W : World} (q : Nat) (hq : w.heap.size ≤ q) (hold : ∀ k, MemS b vw k → k < w.heap.size) (hm : IsMem T E W B b vw s') (hw : Wrote (MemS b vw) w W) {v : Value} (hv : v = h'.v)
    (a1 a2 a3 a4 a5 : Value) : HandRet T E h' s' B b vw w (.returned v) (((((W.setCell ⟨q, 0, none⟩ a1).setCell ⟨q, 1, none⟩ a2).setCell ⟨q, 2, none⟩ a3).setCell ⟨q, 3, none⟩ a4).setCell ⟨q, 4, none⟩ a5) :=
  ⟨by rw [hv], hm.kept ((Wrote.refl (fun k => k = q) W).set5 (fun _ => rfl) a1 a2 a3 a4 a5) (fun k hk e => by have := hold k hk; omega), hw.set5 (fun h => by omega) a1 a2 a3 a4 a5⟩

/-- What a function of a map, a memory and a hand holds in its own boxes: the map, the hand, the answer. -/
structure Three (T : TypeId) (w : World) (m : PM) (h g : HD) (W : World) : Prop where
  map : MapAt T W w.heap.size m
  box : HandAt W (w.heap.size + 1) h
  out : HandAt W (w.heap.size + 1 + 1) g
theorem Three.kept {T : TypeId} {S : Nat → Prop} {w : World} {m : PM} {h g : HD} {W W' : World} (k : Three T w m h g W) (hw : Wrote S W W') (hs : ∀ j, S j → j < w.heap.size) : Three T w m h g W' :=
  ⟨(hw.block _ k.map.lt fun e => by have := hs _ e; omega).trans k.map, k.box.kept hw fun e => by have := hs _ e; omega, k.out.kept hw fun e => by have := hs _ e; omega⟩
theorem Three.below {T : TypeId} {w : World} {m : PM} {h g : HD} {W W' : World} (k : Three T w m h g W) (hb : Below W.heap.size W W') : Three T w m h g W' :=
  ⟨k.map.below hb, k.box.below hb, k.out.below hb⟩
theorem Three.new (T : TypeId) (w : World) (m : PM) (h g : HD) : Three T w m h g (((w.alloc (.cells m.cells T)).alloc (.cells h.cells 24)).alloc (.cells g.cells 24)) := by
  have h1 : HandAt ((w.alloc (.cells m.cells T)).alloc (.cells h.cells 24)) (w.heap.size + 1) h := by have := HandAt.new (w.alloc (.cells m.cells T)) h; rwa [size_alloc1] at this
  have h2 : HandAt (((w.alloc (.cells m.cells T)).alloc (.cells h.cells 24)).alloc (.cells g.cells 24)) (w.heap.size + 1 + 1) g := by have := HandAt.new ((w.alloc (.cells m.cells T)).alloc (.cells h.cells 24)) g; rwa [size_alloc2] at this
  exact ⟨(((MapAt.new T w m).alloc _).alloc _), h1.below (bnew (bid _) _), h2⟩

end Go.Proofs.Ytmcmajndcbobpaa
