/-
  What an instruction is, as five numbers; which may be, which are local: the plain functions, and the contracts of among, May, Local (eval and the document's).
-/
import Derived.Test.YtblalejegjieaaaGreatDoorBase
import Derived.Deep.QuietTactic
import Derived.BigQuiet
namespace Go.Proofs.YtblalejegjieaaaGreatDoor
open Go.RowKit
set_option linter.unusedVariables false

structure Ins where
  op : Int
  a : Int
  b : Int
  c : Int
  n : Int
@[reducible] def Ins.v (i : Ins) : Value := .agg #[.int .i64 i.op, .int .i64 i.a, .int .i64 i.b, .int .i64 i.c, .int .i64 i.n]

def amongB (n many : Int) : Bool := decide (0 ≤ n ∧ n < many)
theorem amongB_yes {n m : Int} (h1 : 0 ≤ n) (h2 : n < m) : amongB n m = true := decide_eq_true ⟨h1, h2⟩
theorem amongB_no {n m : Int} (h : ¬ (0 ≤ n ∧ n < m)) : amongB n m = false := decide_eq_false h
theorem amongB_iff {n m : Int} : amongB n m = true ↔ 0 ≤ n ∧ n < m := decide_eq_true_iff
theorem amongB_not {n m : Int} : amongB n m = false ↔ ¬ (0 ≤ n ∧ n < m) := decide_eq_false_iff_not

/-- Of how many numbers, from 0 on, each field may be one; whether N is free. -/
def limA (op : Int) : Int := [1, 4, 4, 4, 4, 4, 4, 4, 4, 4, 1, 1, 4, 4, 1, 4, 4, 4, 4, 1, 1, 4, 1].getD op.toNat 1
def limB (op : Int) : Int := [1, 1, 4, 4, 4, 4, 4, 4, 4, 4, 4, 4, 1, 2, 1, 1, 1, 1, 1, 1, 1, 1, 1].getD op.toNat 1
def limC (op : Int) : Int := [1, 1, 4, 4, 4, 4, 4, 4, 1, 1, 1, 1, 1, 1, 1, 1, 1, 1, 1, 1, 1, 1, 1].getD op.toNat 1
def freeB (op : Int) : Bool := [false, true, false, false, false, false, false, false, true, true, true, true, false, false, false, false, false, false, false, false, false, false, false].getD op.toNat false
def opB (op : Int) : Bool := decide (1 ≤ op ∧ op ≤ 22)
def mayB (i : Ins) : Bool := opB i.op && amongB i.a (limA i.op) && amongB i.b (limB i.op) && amongB i.c (limC i.op) && (freeB i.op || decide (i.n = 0))
def localB (op : Int) : Bool := decide (1 ≤ op ∧ op ≤ 7 ∨ 18 ≤ op ∧ op ≤ 22)

theorem op_cases (op : Int) : (op = 1 ∨ op = 2 ∨ op = 3 ∨ op = 4 ∨ op = 5 ∨ op = 6 ∨ op = 7 ∨ op = 8 ∨ op = 9 ∨ op = 10 ∨ op = 11) ∨ (op = 12 ∨ op = 13 ∨ op = 14 ∨ op = 15 ∨ op = 16 ∨ op = 17 ∨ op = 18 ∨ op = 19 ∨ op = 20 ∨ op = 21 ∨ op = 22) ∨ (op < 1 ∨ 22 < op) := by omega

set_option maxHeartbeats 400000 in
theorem among_any (n m : Int) (w : World) :
    Calls Tryz.prog 81 #[.int .i64 n, .int .i64 m] w fun e w' => e = .returned (.bool (amongB n m)) ∧ w = w' := by
  by_cases h1 : 0 ≤ n
  · by_cases h2 : n < m
    · have H := hid (amongB_yes h1 h2)
      go_enter Tryz.func81, Tryz.ntmps81
      go_wp2
      go_ret
      exact ⟨by rw [H.out]; rfl, rfl⟩
    · have H := hid (amongB_no (n := n) (m := m) (by omega))
      go_enter Tryz.func81, Tryz.ntmps81
      go_wp2
      go_ret
      exact ⟨by rw [H.out]; rfl, rfl⟩
  · have H := hid (amongB_no (n := n) (m := m) (by omega))
    go_enter Tryz.func81, Tryz.ntmps81
    go_wp2
    go_ret
    exact ⟨by rw [H.out]; rfl, rfl⟩

end Go.Proofs.YtblalejegjieaaaGreatDoor
