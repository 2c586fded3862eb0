/-
  Package check, in plain words: faults, locks, which words are whose.
-/
import Derived.Test.YtblalejegjieaaaGreatDoorIns
namespace Go.Proofs.YtblalejegjieaaaGreatDoor
open Go.RowKit
set_option linter.unusedVariables false

/-- A fault: its code, and where, if that was told. -/
abbrev Flt := Option (Nat × Option (Int × Int))
def placeF (f : Flt) (t p : Int) : Flt :=
  match f with
  | none => none
  | some (c, none) => some (c, some (t, p))
  | some (c, some x) => some (c, some x)
def firstF : Nat → Nat → Int → (Nat → Flt) → Flt
  | 0, _, _, _ => none
  | m + 1, k, t, f => match f k with
    | none => firstF m (k + 1) t f
    | some x => placeF (some x) t (k : Int)
theorem firstF_step {m k : Nat} {t : Int} {f : Nat → Flt} (h : f k = none) : firstF (m + 1) k t f = firstF m (k + 1) t f := by
  conv => lhs; unfold firstF
  rw [h]
theorem firstF_hit {m k : Nat} {t : Int} {f : Nat → Flt} {x : Nat × Option (Int × Int)} (h : f k = some x) : firstF (m + 1) k t f = placeF (some x) t (k : Int) := by
  conv => lhs; unfold firstF
  rw [h]
theorem firstF_none : ∀ (m k : Nat) (t : Int) (f : Nat → Flt), (∀ j, k ≤ j → j < k + m → f j = none) → firstF m k t f = none := by
  intro m
  induction m with
  | zero => intro k t f _; rfl
  | succ m ih => intro k t f h; rw [firstF_step (h k (Nat.le_refl _) (by omega))]; exact ih _ _ _ fun j h1 h2 => h j (by omega) (by omega)

/-- A lock, and the words that it is for. -/
structure Lk where
  kind : Int
  fr : Int
  len : Int
structure Lk.Wf (l : Lk) : Prop where
  f0 : -9223372036854775808 ≤ l.fr
  f1 : l.fr ≤ 9223372036854775807
  l0 : -9223372036854775808 ≤ l.len
  l1 : l.len ≤ 9223372036854775807
def hasB (l : Lk) (d : Int) : Bool := decide (0 < l.len ∧ l.fr ≤ d ∧ d - l.fr < l.len)
theorem hasB_iff {l : Lk} {d : Int} : hasB l d = true ↔ 0 < l.len ∧ l.fr ≤ d ∧ d - l.fr < l.len := decide_eq_true_iff
def regF : List Lk → Nat → Int → Int
  | [], _, _ => -1
  | l :: r, k, d => if hasB l d = true then (k : Int) else regF r (k + 1) d
def regionF (ls : List Lk) (d : Int) : Int := regF ls 0 d

end Go.Proofs.YtblalejegjieaaaGreatDoor
