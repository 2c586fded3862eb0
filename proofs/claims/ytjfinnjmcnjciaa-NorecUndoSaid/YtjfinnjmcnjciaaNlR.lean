/-
  Attempts with values by their plans, pick by pick.
-/
import Derived.Test.YtjfinnjmcnjciaaNpQ
import Derived.Test.YtjfinnjmcnjciaaBoth
namespace Go.Proofs.Ytjfinnjmcnjciaa
open Go.RowKit

@[reducible] def mT : PM := ⟨3, 1, 3, 0, 4⟩
theorem mT_ok : mT.Ok := by decide
theorem mT_size : mT.size = 34 := by decide
theorem mT_phase {t : Nat} (h : t < 3) : mT.at_ 4 (t : Int) 0 = 11 + 2 * (t : Int) := by
  have : t = 0 ∨ t = 1 ∨ t = 2 := by omega
  rcases this with rfl | rfl | rfl <;> decide
theorem mT_data {d : Nat} (h : d < 4) : mT.at_ 8 (d : Int) 0 = 26 + 2 * (d : Int) := by
  have : d = 0 ∨ d = 1 ∨ d = 2 ∨ d = 3 := by omega
  rcases this with rfl | rfl | rfl | rfl <;> decide
theorem mT_seq : mT.at_ 1 0 0 = 1 := by decide
abbrev TX := PT
abbrev txBegin : TX → Int × TX := pBegin
abbrev txCommit : TX → Int × TX := pCommit
abbrev txRead : TX → Int → Int × TX := pRead
abbrev txWrite : TX → Int → Int → Int × TX := pWrite
abbrev txStep : MS → TX → Int × TX × MS := pStep
abbrev txKill : TX → Int → Int × TX := pKill
abbrev txWatch : TX → Int → Int → TX := pWatch
/-- To read a place, or (true) to write it: what was read there, and so much more. -/
abbrev Pl := List (Bool × Nat × Int)
structure RU where
  x : TX
  plan : Pl
  i : Nat
  busy : Bool
  fin : Int
  read : List (Nat × Int)
def dataP (d : Nat) : Int := 26 + 2 * (d : Int)
def valR (rd : List (Nat × Int)) (a : Nat) (v : Int) : Int := rd.foldl (fun y p => if p.1 = a then wrap64 (p.2 + v) else y) v
/-- What was asked is done. -/
def doneR (u : RU) : RU :=
  if u.plan.length < u.i then { u with busy := false, fin := 1 }
  else { u with busy := false, read := if 0 < u.i ∧ (u.plan.getD (u.i - 1) (false, 0, 0)).1 = false then u.read ++ [((u.plan.getD (u.i - 1) (false, 0, 0)).2.1, u.x.val)] else u.read, i := u.i + 1 }
/-- What the next thing of its plan comes to. -/
def askC (u : RU) : Int × TX :=
  if u.i = 0 then txBegin u.x else if u.plan.length < u.i then txCommit u.x
  else if (u.plan.getD (u.i - 1) (false, 0, 0)).1 = false then txRead u.x (dataP (u.plan.getD (u.i - 1) (false, 0, 0)).2.1)
  else txWrite u.x (dataP (u.plan.getD (u.i - 1) (false, 0, 0)).2.1) (valR u.read (u.plan.getD (u.i - 1) (false, 0, 0)).2.1 (u.plan.getD (u.i - 1) (false, 0, 0)).2.2)
def tookC (u : RU) (c : Int) : RU := if c = 1 then doneR u else if c = 2 then { u with fin := 2 } else u
def askR (u : RU) : RU := tookC { u with x := (askC u).2, busy := decide ((askC u).1 = 0) } (askC u).1
def asksR : Nat → RU → RU
  | 0, u => u
  | n + 1, u => if u.busy = false ∧ u.fin = 0 then asksR n (askR u) else u
def stepR (s : MS) (u : RU) : RU := if (txStep s u.x).1 = 1 then doneR { u with x := (txStep s u.x).2.1 } else if (txStep s u.x).1 = 2 then { u with x := (txStep s u.x).2.1, fin := 2 } else { u with x := (txStep s u.x).2.1 }
def nextR (s : MS) (u : RU) : RU × MS :=
  if u.fin ≠ 0 then (u, s)
  else if (asksR 9 u).fin ≠ 0 then (asksR 9 u, s)
  else (stepR s (asksR 9 u), (txStep s (asksR 9 u).x).2.2)


/-- The program's attempt is what it is. -/
def RP (p : PT) (x : TX) : Prop := p = x
def Like2 (a : Int × PT) (c : Int × TX) : Prop := a.1 = c.1 ∧ RP a.2 c.2
def Like3 (a : Int × PT × MS) (c : Int × TX × MS) : Prop := a.1 = c.1 ∧ RP a.2.1 c.2.1 ∧ a.2.2 = c.2.2
theorem RP.begin {p : PT} {x : TX} (h : RP p x) : Like2 (pBegin p) (txBegin x) := by cases h; exact ⟨rfl, rfl⟩
theorem RP.commit {p : PT} {x : TX} (h : RP p x) : Like2 (pCommit p) (txCommit x) := by cases h; exact ⟨rfl, rfl⟩
theorem RP.read {p : PT} {x : TX} (h : RP p x) (a : Int) : Like2 (pRead p a) (txRead x a) := by cases h; exact ⟨rfl, rfl⟩
theorem RP.write {p : PT} {x : TX} (h : RP p x) (a v : Int) : Like2 (pWrite p a v) (txWrite x a v) := by cases h; exact ⟨rfl, rfl⟩
theorem RP.kill {p : PT} {x : TX} (h : RP p x) (c : Int) : Like2 (pKill p c) (txKill x c) := by cases h; exact ⟨rfl, rfl⟩
theorem RP.watch {p : PT} {x : TX} (h : RP p x) (a v : Int) : RP (pWatch p a v) (txWatch x a v) := by cases h; rfl
theorem RP.step {p : PT} {x : TX} (h : RP p x) (s : MS) : Like3 (pStep s p) (txStep s x) := by cases h; exact ⟨rfl, rfl, rfl⟩
theorem RP.same {p : PT} {x : TX} (h : RP p x) : p.m = x.m ∧ p.th = x.th ∧ p.th = x.th ∧ p.mr = x.mr ∧ p.mw = x.mw ∧ p.rs = x.rs ∧ p.ws = x.ws ∧ p.asked = x.asked ∧ p.wt = x.wt ∧ p.alive = x.alive ∧ p.sure = x.sure ∧ p.cause = x.cause ∧ p.stamp = x.stamp ∧ p.made = x.made ∧ p.val = x.val := by cases h; exact ⟨rfl, rfl, rfl, rfl, rfl, rfl, rfl, rfl, rfl, rfl, rfl, rfl, rfl, rfl, rfl⟩
theorem RP.new (m : PM) (th : Int) (mr mw : Nat) (top : Int) : RP (PT.new m th mr mw top) (PT.new m th mr mw top) := rfl

end Go.Proofs.Ytjfinnjmcnjciaa
