/-
  A hand of a lock as five numbers; the plain facts on it.
-/
import Derived.Test.YtjfinnjmcnjciaaPair
import Derived.Test.YtjfinnjmcnjciaaRefs2
import Derived.Laws.StructEq
import Derived.Deep.DeepCutAuto
import Derived.Deep.CutBlock
import Derived.Deep.RegionHeld3
import Derived.BigQuiet
namespace Go.Proofs.Ytjfinnjmcnjciaa
open Go.RowKit

/-- The world under one name. -/
theorem wp_rename {c : Code} {P : Program} {Q : Exit → Act → World → Prop} {a : Act} {w : World} (R : World → Prop) (h : R w) (hc : ∀ w', R w' → c.wp P Q a w') : c.wp P Q a w := hc w h

structure HD where
  t : Int
  l : Int
  s : Int
  rd : Bool
  x : Int

@[reducible] def HD.v (h : HD) : Value := .agg #[.int .i64 h.t, .int .i64 h.l, .int .i64 h.s, .bool h.rd, .int .i64 h.x]
def HD.cells (h : HD) : Array Value := #[.int .i64 h.t, .int .i64 h.l, .int .i64 h.s, .bool h.rd, .int .i64 h.x]

/-- A hand of these threads and locks. -/
def mayH (m : PM) (h : HD) : Prop := m.Ok ∧ 0 ≤ h.t ∧ h.t < m.t ∧ 0 ≤ h.l ∧ h.l < m.l
instance (m : PM) (h : HD) : Decidable (mayH m h) := by unfold mayH; infer_instance

def sameH (a b : HD) : Bool := (a.t == b.t) && (a.l == b.l) && (a.s == b.s) && (a.rd == b.rd) && (a.x == b.x)
theorem sameH_iff {a b : HD} : sameH a b = true ↔ a = b := by
  obtain ⟨t, l, s, r, x⟩ := a
  obtain ⟨t', l', s', r', x'⟩ := b
  simp [sameH, and_assoc]
theorem sameH_refl (a : HD) : sameH a a = true := sameH_iff.2 rfl

theorem lock_in {m : PM} {h : HD} (hm : mayH m h) {p : Int} (p0 : 0 ≤ p) (p1 : p < 6) : m.at_ 3 h.l p = m.from_ 3 + h.l * 6 + p ∧ 0 ≤ m.at_ 3 h.l p ∧ m.at_ 3 h.l p < m.size := by
  obtain ⟨ho, _, _, l0, l1⟩ := hm
  have e := PM.at_in ho (k := 3) (i := h.l) (p := p) l0 (by simp only [PM.many]; omega) p0 (by simp only [PM.each]; omega)
  have h4 := ho.l2
  have htl := m.tl ho
  refine ⟨e, ?_⟩
  rw [m.size_ok ho]
  rw [e]
  obtain ⟨s1, s2, l1', l2, t1, t2, c1, c2, d1, d2⟩ := ho
  obtain ⟨h1, h2⟩ := htl
  simp only [PM.from_, PM.each]
  refine ⟨?_, ?_⟩ <;> omega
theorem lock_out {m : PM} {l p : Int} (h : l < 0 ∨ m.l ≤ l) : m.at_ 3 l p = -1 := PM.at_out (by rcases h with h | h; exact .inr (.inl h); exact .inr (.inr (.inl h)))
theorem thread_in {m : PM} (ho : m.Ok) {i p : Int} (i0 : 0 ≤ i) (i1 : i < m.t) (p0 : 0 ≤ p) (p1 : p < 2) : 0 ≤ m.at_ 4 i p ∧ m.at_ 4 i p < m.size := by
  have e := PM.at_in ho (k := 4) (i := i) (p := p) i0 (by simp only [PM.many]; omega) p0 (by simp only [PM.each]; omega)
  have htl := m.tl ho
  rw [m.size_ok ho, e]
  obtain ⟨s1, s2, l1', l2, t1, t2, c1, c2, d1, d2⟩ := ho
  obtain ⟨h1, h2⟩ := htl
  simp only [PM.from_, PM.each]
  refine ⟨?_, ?_⟩ <;> omega
theorem thread_out {m : PM} {i p : Int} (h : i < 0 ∨ m.t ≤ i) : m.at_ 4 i p = -1 := PM.at_out (by rcases h with h | h; exact .inr (.inl h); exact .inr (.inr (.inl h)))

theorem Wrote.of_eq {w w' : World} (h : w = w') (S : Nat → Prop) : Wrote S w w' := h ▸ Wrote.refl S w

theorem Wrote.set5 {S : Nat → Prop} {w W : World} (hw : Wrote S w W) {q : Nat} (hq : q < w.heap.size → S q) (a b c d e : Value) :
    Wrote S w (((((W.setCell ⟨q, 0, none⟩ a).setCell ⟨q, 1, none⟩ b).setCell ⟨q, 2, none⟩ c).setCell ⟨q, 3, none⟩ d).setCell ⟨q, 4, none⟩ e) :=
  ((((hw.setCell (p := ⟨q, 0, none⟩) hq a).setCell (p := ⟨q, 1, none⟩) hq b).setCell (p := ⟨q, 2, none⟩) hq c).setCell (p := ⟨q, 3, none⟩) hq d).setCell (p := ⟨q, 4, none⟩) hq e

/-- What a step of a hand comes to: the hand, and what the memory holds. -/
def HandRet (T E : TypeId) (h' : HD) (s' : MS) (B b : Nat) (vw : Value) (w : World) (e : Ending) (w' : World) : Prop :=
  e = .returned h'.v ∧ IsMem T E w' B b vw s' ∧ Wrote (MemS b vw) w w'
theorem HandRet.done {T E : TypeId} {h' : HD} {s' : MS} {B b : Nat} {vw : Value} {w W : World} (q : Nat) (hq : w.heap.size ≤ q) (hold : ∀ k, MemS b vw k → k < w.heap.size) (hm : IsMem T E W B b vw s') (hw : Wrote (MemS b vw) w W) {v : Value} (hv : v = h'.v)
    (a1 a2 a3 a4 a5 : Value) : HandRet T E h' s' B b vw w (.returned v) (((((W.setCell ⟨q, 0, none⟩ a1).setCell ⟨q, 1, none⟩ a2).setCell ⟨q, 2, none⟩ a3).setCell ⟨q, 3, none⟩ a4).setCell ⟨q, 4, none⟩ a5) :=
  ⟨by rw [hv], hm.kept ((Wrote.refl (fun k => k = q) W).set5 (fun _ => rfl) a1 a2 a3 a4 a5) (fun k hk e => by have := hold k hk; omega), hw.set5 (fun h => by omega) a1 a2 a3 a4 a5⟩

end Go.Proofs.Ytjfinnjmcnjciaa
