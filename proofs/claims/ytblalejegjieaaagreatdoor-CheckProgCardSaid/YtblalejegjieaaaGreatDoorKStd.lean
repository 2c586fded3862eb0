/-
  Package check, in plain words: where an instruction stands; a program's fault; a run's.
-/
import Derived.Test.YtblalejegjieaaaGreatDoorKLock
import Derived.Test.YtblalejegjieaaaGreatDoorKRow
namespace Go.Proofs.YtblalejegjieaaaGreatDoor
open Go.RowKit
set_option linter.unusedVariables false

/-- What an instruction stands in. -/
structure Std where
  op : List Ins
  hi : Int
  lp : Bool
def arStep (o : Bool) (x : Ins) (s : Std) : Std :=
  let l := if (o && (x.op == 13)) = true then s.op ++ [x] else s.op
  if l.length = 0 then ⟨l, s.hi, s.lp⟩
  else if x.op = 13 then ⟨l, max s.hi x.a, s.lp⟩
  else if x.op = 21 then ⟨l, s.hi, s.lp || o⟩
  else ⟨l, s.hi, s.lp⟩
def arGo (ms : List Int) (at_ : Nat) : List Ins → Nat → Std → Std
  | [], _, s => s
  | x :: r, k, s => arGo ms at_ r (k + 1) (arStep (decide ((at_ : Int) < ms.getD k 0)) x s)
def aroundF (p : List Ins) (ms : List Int) (at_ : Nat) : Std := arGo ms at_ (p.take at_) 0 ⟨[], 0, false⟩

def ins0 : Ins := ⟨0, 0, 0, 0, 0⟩
def lk0 : Lk := ⟨0, 0, 0⟩
def enterF (c : Cfg) (s : CV) (x : Ins) (d : Std) : Nat :=
  if (s.nl : Int) ≤ x.a then 6
  else if x.b = 1 ∧ (c.locks.getD x.a.toNat lk0).kind ≠ 3 then 7
  else if d.op.length = 0 then 0
  else if 3 ≤ d.op.length then 5
  else if d.lp = true ∨ x.a ≤ d.hi then 8
  else 0
def readsB (x : Ins) : Bool := x.b == 1
def storeF (d : Std) : Nat := if d.op.length = 0 then 0 else if d.op.any (fun x => !readsB x) = true then 0 else 7
def callF (c : Cfg) (s : CV) (x : Ins) (d : Std) : Nat :=
  if (s.nc : Int) ≤ x.a then 9
  else if x.op = 15 ∧ 1 < d.op.length then 6
  else match d.op.find? (fun e => e.a == c.conds.getD x.a.toNat 0) with
    | none => 6
    | some e => if readsB e = true then 7 else 0
def misF (c : Cfg) (s : CV) (x : Ins) (d : Std) : Nat :=
  if x.op = 13 then enterF c s x d
  else if x.op = 10 ∨ x.op = 11 then (if d.op.length = 0 then 7 else storeF d)
  else if x.op = 9 then storeF d
  else if x.op = 15 ∨ x.op = 16 ∨ x.op = 17 then callF c s x d
  else 0
def codeF (n : Nat) : Flt := if n = 0 then none else some (n, none)
def instrF (x : Ins) : Flt := if mayB x = true then none else some (1, none)
def orF (a b : Flt) : Flt := match a with
  | none => b
  | some x => some x
def blocksF (p : List Ins) (t : Int) (b : Flt) : Flt := if 0 ≤ (matesOf (opsOf p)).2 then some (5, some (t, (matesOf (opsOf p)).2)) else b
/-- The fault of a program. -/
def wrongF (c : Cfg) (s : CV) (p : List Ins) (t : Int) : Flt :=
  if 48 < p.length then some (4, none)
  else orF (firstF p.length 0 t (fun k => instrF (p.getD k ins0)))
    (blocksF p t (firstF p.length 0 t (fun k => codeF (misF c s (p.getD k ins0) (aroundF p (matesOf (opsOf p)).1 k)))))
def progF (c : Cfg) (s : CV) (t : Nat) : Flt := placeF (wrongF c s (c.progs.getD t []) (t : Int)) (t : Int) (-1)
def condF (c : Cfg) (s : CV) (i : Nat) : Flt :=
  let l := c.conds.getD i 0
  if inB l 0 ((s.nl : Int) - 1) = true then (if (c.locks.getD l.toNat lk0).len = 0 then some (6, none) else none) else some (9, none)
/-- The fault of what a run begins with. -/
def configF (c : Cfg) (s : CV) : Flt :=
  placeF (orF (amountsF c s) (orF (firstF s.nl 0 (-1) (lockF c s)) (orF (firstF s.nc 0 (-1) (condF c s)) (firstF s.np 0 (-1) (progF c s))))) (-1) (-1)

end Go.Proofs.YtblalejegjieaaaGreatDoor
