/-
  The memory and the document's own, side by side: each access, at whatever place, answers the same on both.
-/
import Derived.Test.YtjfinnjmcnjciaaRefOps
import Derived.Test.YtjfinnjmcnjciaaLimit
namespace Go.Proofs.Ytjfinnjmcnjciaa
open Go.RowKit

theorem Wrote.cell {S : Nat → Prop} {w w' : World} (h : Wrote S w w') {p : Addr} {v : Value} (hs : ¬ S p.block) (hc : w.cell? p = some v) : w'.cell? p = some v := by
  rw [World.cell?_of_block (w := w) (h.block _ (World.block_lt_of_cell? w _ hc) hs)]
  exact hc

def MS.has (s : MS) (p : Int) : Prop := 0 ≤ p ∧ p < (s.zs.length : Int)
instance (s : MS) (p : Int) : Decidable (s.has p) := by unfold MS.has; infer_instance
def MS.vAt (s : MS) (p : Int) : Int := if s.has p then s.zs.getD p.toNat 0 else 0
def MS.eAt (s : MS) (p : Int) : Int := if s.has p then 0 else 2
def MS.loaded (s : MS) (p : Int) : MS := if s.has p then s.acc 1 p (s.zs.getD p.toNat 0) (s.zs.getD p.toNat 0) true else s
def MS.stored (s : MS) (p v : Int) : MS := if s.has p then (s.put p.toNat v).acc 2 p v (s.zs.getD p.toNat 0) true else s
def MS.added (s : MS) (p v : Int) : MS := if s.has p then (s.put p.toNat (wrap64 (s.zs.getD p.toNat 0 + v))).acc 4 p v (s.zs.getD p.toNat 0) true else s
def MS.okAt (s : MS) (p o : Int) : Bool := decide (s.has p ∧ s.zs.getD p.toNat 0 = o)
def MS.swapped (s : MS) (p o v : Int) : MS := if s.has p then (if s.zs.getD p.toNat 0 = o then (s.put p.toNat v).acc 3 p v o true else s.acc 3 p v (s.zs.getD p.toNat 0) false) else s

theorem not_has {s : MS} {p : Int} (h : ¬ s.has p) : p < 0 ∨ (s.zs.length : Int) ≤ p := by unfold MS.has at h; omega

theorem Load_at (p : Int) (w : World) (B b : Nat) (vw : Value) (s : MS) (h : Mem w B b vw s) :
    Calls Try.prog 107 #[.pointer (some ⟨b, 0, none⟩), .int .i64 p] w fun e w' => e = .returned (.tuple #[.int .i64 (s.vAt p), .int .i64 (s.eAt p)]) ∧ Mem w' B b vw (s.loaded p) ∧ Wrote (MemS b vw) w w' := by
  by_cases hp : s.has p
  · simp only [MS.vAt, MS.eAt, MS.loaded, if_pos hp]
    exact Load_in p w B b vw s h hp.1 hp.2
  · simp only [MS.vAt, MS.eAt, MS.loaded, if_neg hp]
    refine (Load_out p w B b vw s h (not_has hp)).mono ?_
    rintro e w' ⟨he, rfl⟩
    exact ⟨he, h, Wrote.refl _ _⟩

theorem Store_at (p v : Int) (w : World) (B b : Nat) (vw : Value) (s : MS) (h : Mem w B b vw s) :
    Calls Try.prog 34 #[.pointer (some ⟨b, 0, none⟩), .int .i64 p, .int .i64 v] w fun e w' => e = .returned (.int .i64 (s.eAt p)) ∧ Mem w' B b vw (s.stored p v) ∧ Wrote (MemS b vw) w w' := by
  by_cases hp : s.has p
  · simp only [MS.eAt, MS.stored, if_pos hp]
    exact Store_in p v w B b vw s h hp.1 hp.2
  · simp only [MS.eAt, MS.stored, if_neg hp]
    refine (Store_out p v w B b vw s h (not_has hp)).mono ?_
    rintro e w' ⟨he, rfl⟩
    exact ⟨he, h, Wrote.refl _ _⟩

theorem Add_at (p v : Int) (w : World) (B b : Nat) (vw : Value) (s : MS) (h : Mem w B b vw s) :
    Calls Try.prog 150 #[.pointer (some ⟨b, 0, none⟩), .int .i64 p, .int .i64 v] w fun e w' => e = .returned (.tuple #[.int .i64 (s.vAt p), .int .i64 (s.eAt p)]) ∧ Mem w' B b vw (s.added p v) ∧ Wrote (MemS b vw) w w' := by
  by_cases hp : s.has p
  · simp only [MS.vAt, MS.eAt, MS.added, if_pos hp]
    exact Add_in p v w B b vw s h hp.1 hp.2
  · simp only [MS.vAt, MS.eAt, MS.added, if_neg hp]
    refine (Add_out p v w B b vw s h (not_has hp)).mono ?_
    rintro e w' ⟨he, rfl⟩
    exact ⟨he, h, Wrote.refl _ _⟩

theorem Swap_at (p o v : Int) (w : World) (B b : Nat) (vw : Value) (s : MS) (h : Mem w B b vw s) :
    Calls Try.prog 136 #[.pointer (some ⟨b, 0, none⟩), .int .i64 p, .int .i64 o, .int .i64 v] w fun e w' => e = .returned (.tuple #[.int .i64 (s.vAt p), .bool (s.okAt p o), .int .i64 (s.eAt p)]) ∧ Mem w' B b vw (s.swapped p o v) ∧ Wrote (MemS b vw) w w' := by
  by_cases hp : s.has p
  · by_cases ho : s.zs.getD p.toNat 0 = o
    · have e : s.okAt p o = true := by simp only [MS.okAt, hp, ho]; simp
      simp only [MS.vAt, MS.eAt, MS.swapped, if_pos hp, if_pos ho, e, ho]
      exact Swap_yes p o v w B b vw s h hp.1 hp.2 ho
    · have e : s.okAt p o = false := by simp only [MS.okAt, ho]; simp
      simp only [MS.vAt, MS.eAt, MS.swapped, if_pos hp, if_neg ho, e]
      exact Swap_no p o v w B b vw s h hp.1 hp.2 ho
  · have e : s.okAt p o = false := by simp only [MS.okAt, hp]; simp
    simp only [MS.vAt, MS.eAt, MS.swapped, if_neg hp, e]
    refine (Swap_out p o v w B b vw s h (not_has hp)).mono ?_
    rintro e w' ⟨he, rfl⟩
    exact ⟨he, h, Wrote.refl _ _⟩

theorem Peek_at (p : Int) (w : World) (B b : Nat) (vw : Value) (s : MS) (h : Mem w B b vw s) :
    Calls Try.prog 21 #[.pointer (some ⟨b, 0, none⟩), .int .i64 p] w fun e w' => e = .returned (.int .i64 (s.vAt p)) ∧ w = w' := by
  by_cases hp : s.has p
  · simp only [MS.vAt, if_pos hp]; exact Peek_in p w B b vw s h hp.1 hp.2
  · simp only [MS.vAt, if_neg hp]; exact Peek_out p w B b vw s h (not_has hp)

theorem len_loaded (s : MS) (p : Int) : (s.loaded p).zs.length = s.zs.length := by unfold MS.loaded; split <;> simp [MS.acc]
theorem len_stored (s : MS) (p v : Int) : (s.stored p v).zs.length = s.zs.length := by unfold MS.stored; split <;> simp [MS.acc, MS.put]
theorem len_added (s : MS) (p v : Int) : (s.added p v).zs.length = s.zs.length := by unfold MS.added; split <;> simp [MS.acc, MS.put]
theorem len_swapped (s : MS) (p o v : Int) : (s.swapped p o v).zs.length = s.zs.length := by
  unfold MS.swapped; split
  · split <;> simp [MS.acc, MS.put]
  · rfl

/-- Both, side by side, and alike. -/
structure Pair (w : World) (B b : Nat) (vw : Value) (c : Nat) (vr : Value) (s t : MS) : Prop where
  mem : Mem w B b vw s
  ref : Ref w B c vr t
  apart : ∀ k, MemS b vw k → ¬ MemS c vr k

def PairS (b : Nat) (vw : Value) (c : Nat) (vr : Value) : Nat → Prop := fun k => MemS b vw k ∨ MemS c vr k

theorem Pair.old {w : World} {B b : Nat} {vw : Value} {c : Nat} {vr : Value} {s t : MS} (h : Pair w B b vw c vr s t) : ∀ k, k < B → ¬ PairS b vw c vr k := by
  intro k hk hS
  rcases hS with hS | hS
  · exact h.mem.old k hk hS
  · exact h.ref.old k hk hS

theorem Pair.young {w : World} {B b : Nat} {vw : Value} {c : Nat} {vr : Value} {s t : MS} (h : Pair w B b vw c vr s t) : ∀ k, PairS b vw c vr k → k < w.heap.size := by
  intro k hS
  rcases hS with (rfl | hS) | (rfl | hS)
  · exact h.mem.lt
  · exact (h.mem.row.lt k hS).2
  · exact h.ref.lt
  · exact (h.ref.row.lt k hS).2

theorem Pair.below {w w' : World} {B b : Nat} {vw : Value} {c : Nat} {vr : Value} {s t : MS} (h : Pair w B b vw c vr s t) (hb : Below w.heap.size w w') : Pair w' B b vw c vr s t :=
  ⟨h.mem.kept (Wrote.of_below hb (fun _ => False)) (fun _ _ h => h), h.ref.kept (Wrote.of_below hb (fun _ => False)) (fun _ _ h => h), h.apart⟩

theorem Pair.one {w w' : World} {B b : Nat} {vw : Value} {c : Nat} {vr : Value} {s t s' : MS} (h : Pair w B b vw c vr s t) (hm : Mem w' B b vw s') (hw : Wrote (MemS b vw) w w') : Pair w' B b vw c vr s' t :=
  ⟨hm, h.ref.kept hw (fun k h1 h2 => h.apart k h2 h1), h.apart⟩

theorem Pair.two {w w' : World} {B b : Nat} {vw : Value} {c : Nat} {vr : Value} {s t t' : MS} (h : Pair w B b vw c vr s t) (hm : Ref w' B c vr t') (hw : Wrote (MemS c vr) w w') : Pair w' B b vw c vr s t' :=
  ⟨h.mem.kept hw (fun k h1 h2 => h.apart k h1 h2), hm, h.apart⟩

theorem wrote_one {w w' : World} {b : Nat} {vw : Value} {c : Nat} {vr : Value} (hw : Wrote (MemS b vw) w w') : Wrote (PairS b vw c vr) w w' := hw.mono fun _ _ h => .inl h
theorem wrote_two {w w' : World} {b : Nat} {vw : Value} {c : Nat} {vr : Value} (hw : Wrote (MemS c vr) w w') : Wrote (PairS b vw c vr) w w' := hw.mono fun _ _ h => .inr h

end Go.Proofs.Ytjfinnjmcnjciaa
