/-
  What stands where in a statement on clocks: the map, both memories, boxes of one's own.
-/
import Derived.Test.YtkfajeimfpbfdaaClkS
import Derived.Test.YtkfajeimfpbfdaaClkR
import Derived.Test.YtkfajeimfpbfdaaClkE
import Derived.Test.YtkfajeimfpbfdaaStageN
namespace Go.Proofs.Ytkfajeimfpbfdaa
open Go.RowKit
attribute [local go_sem] Later.cell Later.frozen

/-- The map's block, and both memories made behind it. -/
structure Fr (w : World) (q b : Nat) (vw : Value) (c : Nat) (vr : Value) (s t : MS) (W : World) : Prop where
  map : MapAt 25 W q mp4
  pair : Pair W w.heap.size b vw c vr s t
  fr : ¬ PairS b vw c vr q
  q0 : w.heap.size ≤ q
  below : Below w.heap.size w W
section
variable {w : World} {q b : Nat} {vw : Value} {c : Nat} {vr : Value} {s t s' t' : MS} {W W' : World}
theorem Fr.mem (k : Fr w q b vw c vr s t W) : Mem W w.heap.size b vw s := k.pair.mem
theorem Fr.ref (k : Fr w q b vw c vr s t W) : Ref W w.heap.size c vr t := k.pair.ref
theorem Fr.later (k : Fr w q b vw c vr s t W) (hb : Below W.heap.size W W') : Fr w q b vw c vr s t W' := ⟨k.map.below hb, k.pair.below hb, k.fr, k.q0, bthen k.below hb⟩
theorem Fr.one (k : Fr w q b vw c vr s t W) (hm : Mem W' w.heap.size b vw s') (hw : Wrote (MemS b vw) W W') : Fr w q b vw c vr s' t W' :=
  ⟨(hw.block q k.map.lt fun h => k.fr (.inl h)).trans k.map, k.pair.one hm hw, k.fr, k.q0, k.below.trans (hw.below k.below.size k.pair.mem.old)⟩
theorem Fr.two (k : Fr w q b vw c vr s t W) (hm : Ref W' w.heap.size c vr t') (hw : Wrote (MemS c vr) W W') : Fr w q b vw c vr s t' W' :=
  ⟨(hw.block q k.map.lt fun h => k.fr (.inr h)).trans k.map, k.pair.two hm hw, k.fr, k.q0, k.below.trans (hw.below k.below.size k.pair.ref.old)⟩
/-- Something of one's own is written. -/
theorem Fr.away {S : Nat → Prop} (k : Fr w q b vw c vr s t W) (hw : Wrote S W W') (h0 : ∀ j, S j → w.heap.size ≤ j) (hq : ¬ S q) (hp : ∀ j, S j → ¬ PairS b vw c vr j) : Fr w q b vw c vr s t W' :=
  ⟨(hw.block q k.map.lt hq).trans k.map, ⟨k.pair.mem.kept hw fun j hj e => hp j e (.inl hj), k.pair.ref.kept hw fun j hj e => hp j e (.inr hj), k.pair.apart⟩, k.fr, k.q0, k.below.trans (hw.below k.below.size fun j hj e => by have := h0 j e; omega)⟩
theorem Fr.start {W W1 : World} {q : Nat} (hmp : MapAt 25 W q mp4) (hq : w.heap.size ≤ q) (hb : Below w.heap.size w W) (hp : Pair W1 W.heap.size b vw c vr s t) (hb1 : Below W.heap.size W W1) : Fr w q b vw c vr s t W1 :=
  ⟨hmp.below hb1, hp.mono hb.size, hp.old q hmp.lt, hq, bthen hb hb1⟩
theorem Fr.cells (k : Fr w q b vw c vr s t W) : W.cell? ⟨q, 0, none⟩ = some (.int .i64 2) ∧ W.cell? ⟨q, 1, none⟩ = some (.int .i64 2) ∧ W.cell? ⟨q, 2, none⟩ = some (.int .i64 4) ∧ W.cell? ⟨q, 3, none⟩ = some (.int .i64 0) ∧ W.cell? ⟨q, 4, none⟩ = some (.int .i64 2) := by
  obtain ⟨m0, m1, m2, m3, m4, _⟩ := k.map.facts
  exact ⟨m0, m1, m2, m3, m4⟩
end
/-- A box with a bump, of one's own. -/
structure Bx (T : TypeId) (w : World) (q b : Nat) (vw : Value) (c : Nat) (vr : Value) (a : Nat) (g : BD) (W : World) : Prop where
  at_ : BumpAt T W a g
  ne : a ≠ q
  fr : ¬ PairS b vw c vr a
  a0 : w.heap.size ≤ a
section
variable {T : TypeId} {w : World} {q b : Nat} {vw : Value} {c : Nat} {vr : Value} {a : Nat} {g : BD} {s t s' t' : MS} {W W' : World}
theorem Bx.later (k : Bx T w q b vw c vr a g W) (hb : Below W.heap.size W W') : Bx T w q b vw c vr a g W' := ⟨k.at_.below hb, k.ne, k.fr, k.a0⟩
theorem Bx.kept {S : Nat → Prop} (k : Bx T w q b vw c vr a g W) (hw : Wrote S W W') (h : ¬ S a) : Bx T w q b vw c vr a g W' := ⟨k.at_.kept hw h, k.ne, k.fr, k.a0⟩
theorem Bx.one (k : Bx T w q b vw c vr a g W) (hw : Wrote (MemS b vw) W W') : Bx T w q b vw c vr a g W' := k.kept hw fun h => k.fr (.inl h)
theorem Bx.two (k : Bx T w q b vw c vr a g W) (hw : Wrote (MemS c vr) W W') : Bx T w q b vw c vr a g W' := k.kept hw fun h => k.fr (.inr h)
theorem Bx.new (T : TypeId) (k : Fr w q b vw c vr s t W) (g : BD) : Bx T w q b vw c vr W.heap.size g (W.alloc (.cells g.cells T)) :=
  ⟨BumpAt.new T W g, by have := k.map.lt; omega, fun h => by have := k.pair.young _ h; omega, k.below.size⟩
theorem Bx.set (k : Bx T w q b vw c vr a g W) (h : BD) : Bx T w q b vw c vr a h ((((W.setCell ⟨a, 0, none⟩ (.int .i64 h.k)).setCell ⟨a, 1, none⟩ (.int .i64 h.s)).setCell ⟨a, 2, none⟩ (.int .i64 h.x)).setCell ⟨a, 3, none⟩ (.int .i64 h.p)) := ⟨k.at_.set4 h, k.ne, k.fr, k.a0⟩
theorem wrote4 (W : World) (a : Nat) (a1 a2 a3 a4 : Value) : Wrote (fun j => j = a) W ((((W.setCell ⟨a, 0, none⟩ a1).setCell ⟨a, 1, none⟩ a2).setCell ⟨a, 2, none⟩ a3).setCell ⟨a, 3, none⟩ a4) := (Wrote.refl (fun j => j = a) W).set4 (fun _ => rfl) a1 a2 a3 a4
theorem Fr.box (k : Fr w q b vw c vr s t W) (hw : Wrote (fun j => j = a) W W') (h : w.heap.size ≤ a) (hq : a ≠ q) (hp : ¬ PairS b vw c vr a) : Fr w q b vw c vr s t W' := k.away hw (fun j e => e ▸ h) (fun e => hq e.symm) (fun j e => e ▸ hp)
end
/-- Such a box, or none yet. -/
def OwnB (T : TypeId) (w : World) (q b : Nat) (vw : Value) (c : Nat) (vr : Value) (W : World) : Option Nat → Prop
  | none => True
  | some a => Bx T w q b vw c vr a b0 W
theorem OwnB.later {T : TypeId} {w : World} {q b : Nat} {vw : Value} {c : Nat} {vr : Value} {W W' : World} {o : Option Nat} (k : OwnB T w q b vw c vr W o) (hb : Below W.heap.size W W') : OwnB T w q b vw c vr W' o := by
  cases o with
  | none => trivial
  | some a => exact Bx.later k hb
theorem OwnB.kept {T : TypeId} {w : World} {q b : Nat} {vw : Value} {c : Nat} {vr : Value} {W W' : World} {S : Nat → Prop} {o : Option Nat} (k : OwnB T w q b vw c vr W o) (hw : Wrote S W W') (h : ∀ j, S j → PairS b vw c vr j) : OwnB T w q b vw c vr W' o := by
  cases o with
  | none => trivial
  | some a => exact Bx.kept k hw fun e => k.fr (h a e)

/-- The world of such a walk under one name. -/
theorem rename_to {P : Program} {md : Region.Mode} {ops : Array Oper} {Q : Exit → Act → World → Prop} {S : World → Prop} {fuel : Nat} {listed : Array Bool} {a : Act} {w : World} (R : World → Prop) (hR : R w) (h : ∀ W, R W → wpAnyH P md ops Q S fuel listed a W) : wpAnyH P md ops Q S fuel listed a w := h w hR
/-- What all ways come to, proved once. -/
theorem with_tail1 {goal : Prop} (T : Nat → World → Prop) (R : Nat → World → Prop) (h1 : (∀ ga Z, R ga Z → T ga Z) → goal) (h2 : ∀ ga Z, R ga Z → T ga Z) : goal := h1 h2
theorem Map_v : (PM.v mp4) = .agg #[.int .i64 2, .int .i64 2, .int .i64 4, .int .i64 0, .int .i64 2] := rfl

/-- The walk of the example: the map and the memories, and perhaps the new box. -/
structure Td (w : World) (q b : Nat) (vw : Value) (c : Nat) (vr : Value) (s t : MS) (o : Option Nat) (W : World) : Prop where
  fr : Fr w q b vw c vr s t W
  own : OwnB 23 w q b vw c vr W o
section
variable {w : World} {q b : Nat} {vw : Value} {c : Nat} {vr : Value} {s t s' : MS} {o : Option Nat} {W W' : World}
theorem Td.later (k : Td w q b vw c vr s t o W) (hb : Below W.heap.size W W') : Td w q b vw c vr s t o W' := ⟨k.fr.later hb, k.own.later hb⟩
theorem Td.one (k : Td w q b vw c vr s t o W) (hm : Mem W' w.heap.size b vw s') (hw : Wrote (MemS b vw) W W') : Td w q b vw c vr s' t o W' := ⟨k.fr.one hm hw, k.own.kept hw fun _ h => .inl h⟩
theorem Td.new (k : Td w q b vw c vr s t none W) : Td w q b vw c vr s t (some W.heap.size) (W.alloc (.cells b0.cells 23)) := ⟨k.fr.later (bnew (bid W) _), Bx.new _ k.fr b0⟩
end

end Go.Proofs.Ytkfajeimfpbfdaa
