/-
  The memory and the document's own, side by side: each access, at whatever place, answers the same on both.
-/
import Derived.Test.YtcnpflnfmndibaaRefOps
import Derived.Test.YtcnpflnfmndibaaLimit
namespace Go.Proofs.Ytcnpflnfmndibaa
open Go.RowKit

theorem Wrote.cell {S : Nat → Prop} {w w' : World} (h : Wrote S w w') {p : Addr} {v : Value} (hs : ¬ S p.block) (hc : w.cell? p = some v) : w'.cell? p = some v := by
  rw [World.cell?_of_block (w := w) (h.block _ (World.block_lt_of_cell? w _ hc) hs)]
  exact hc

def MS.has (s : MS) (p : Int) : Prop := 0 ≤ p ∧ p < (s.zs.length : Int)
instance (s : MS) (p : Int) : Decidable (s.has p) := by unfold MS.has; infer_instance
def MS.vAt (s : MS) (p : Int) : Int := if s.has p then s.zs.getD p.toNat 0 else 0
def MS.eAt (s : MS) (p : Int) : Int := if s.has p then 0 else 2
def MS.loaded (s : MS) (p : Int) : MS := if s.has p then s.acc 1 p (s.zs.getD p.toNat 0) (s.zs.getD p.toNat 0) true else s
def MS.stored (s : MS) (p v : Int) : MS := if s.has p then (s.put p.toNat v).acc 2 p v (s.zs.getD p.toNat 0) true else s
def MS.added (s : MS) (p v : Int) : MS := if s.has p then (s.put p.toNat (wrap64 (s.zs.getD p.toNat 0 + v))).acc 4 p v (s.zs.getD p.toNat 0) true else s
def MS.okAt (s : MS) (p o : Int) : Bool := decide (s.has p ∧ s.zs.getD p.toNat 0 = o)
def MS.swapped (s : MS) (p o v : Int) : MS := if s.has p then (if s.zs.getD p.toNat 0 = o then (s.put p.toNat v).acc 3 p v o true else s.acc 3 p v (s.zs.getD p.toNat 0) false) else s

theorem not_has {s : MS} {p : Int} (h : ¬ s.has p) : p < 0 ∨ (s.zs.length : Int) ≤ p := by unfold MS.has at h; omega

theorem len_loaded (s : MS) (p : Int) : (s.loaded p).zs.length = s.zs.length := by unfold MS.loaded; split <;> simp [MS.acc]
theorem len_stored (s : MS) (p v : Int) : (s.stored p v).zs.length = s.zs.length := by unfold MS.stored; split <;> simp [MS.acc, MS.put]
theorem len_added (s : MS) (p v : Int) : (s.added p v).zs.length = s.zs.length := by unfold MS.added; split <;> simp [MS.acc, MS.put]
theorem len_swapped (s : MS) (p o v : Int) : (s.swapped p o v).zs.length = s.zs.length := by
  unfold MS.swapped; split
  · split <;> simp [MS.acc, MS.put]
  · rfl

def PairS (b : Nat) (vw : Value) (c : Nat) (vr : Value) : Nat → Prop := fun k => MemS b vw k ∨ MemS c vr k

theorem wrote_one {w w' : World} {b : Nat} {vw : Value} {c : Nat} {vr : Value} (hw : Wrote (MemS b vw) w w') : Wrote (PairS b vw c vr) w w' := hw.mono fun _ _ h => .inl h
theorem wrote_two {w w' : World} {b : Nat} {vw : Value} {c : Nat} {vr : Value} (hw : Wrote (MemS c vr) w w') : Wrote (PairS b vw c vr) w w' := hw.mono fun _ _ h => .inr h

end Go.Proofs.Ytcnpflnfmndibaa
