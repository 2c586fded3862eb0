/-
  THE PROGRAM'S ATTEMPT WITH VALUES, in plain words: what is left of what was asked is a list of parts; each call, each access.
-/
import Derived.Test.YtjfinnjmcnjciaaBase
import Derived.Test.YtjfinnjmcnjciaaWrP
import Derived.Test.YtjfinnjmcnjciaaRdP
import Derived.Test.YtjfinnjmcnjciaaPm
import Derived.Test.YtjfinnjmcnjciaaPair
namespace Go.Proofs.Ytjfinnjmcnjciaa
open Go.RowKit

structure PT where
  m : PM
  th : Int
  top : Int
  mr : Nat
  mw : Nat
  rs : List Wd
  ws : List Wd
  asked : Nat
  wt : List Wd
  alive : Bool
  sure : Bool
  cause : Int
  stamp : Int
  made : Int
  val : Int
  parts : List Int
  dn : Nat
  at_ : Int
  got : Int
  now : Int
  claimed : Bool
  phased : Bool

def PT.new (m : PM) (th : Int) (mr mw : Nat) (top : Int) : PT := ⟨m, th, top, mr, mw, [], [], 0, [], false, false, 0, 0, 0, 0, [], 0, 0, 0, 0, false, false⟩
def PT.seqP (x : PT) : Int := x.m.at_ 1 0 0
def PT.phaseP (x : PT) : Int := x.m.at_ 4 x.th 0
def PT.next (x : PT) : Int := wrap64 (x.stamp + 2)
/-- Whether a part has an access left. -/
def leftP (x : PT) (p : Int) : Bool :=
  if p = 0 then decide (x.dn = 0) || decide (x.now % 2 = 1)
  else if p = 1 then decide (x.dn < x.rs.length)
  else if p = 3 then decide (x.dn < x.wt.length)
  else if p = 8 then decide (x.dn < x.ws.length)
  else if p = 10 then x.claimed
  else if p = 11 then x.phased
  else if 12 ≤ p then false
  else decide (x.dn = 0)
/-- What comes with a part's last access: the cause that is found then. -/
def passC (x : PT) (p : Int) : Int := if p = 14 ∧ x.top < x.next then 5 else 0
def passP (x : PT) (p : Int) : PT :=
  if p = 12 then { x with val := x.got, rs := putL x.mr x.rs x.at_ x.got }
  else if p = 13 then { x with stamp := x.now }
  else if p = 15 then { x with sure := true }
  else if p = 16 then { x with alive := false, stamp := if x.ws = [] then x.stamp else x.made }
  else x
def endP (x : PT) : Int := if x.alive = false ∧ x.sure = false then 2 else 1
/-- What is to be undone: what is found by the way is none. -/
def goQ : List Int → PT → Int × PT
  | [], x => (endP x, { x with parts := [] })
  | p :: ps, x => if leftP { x with parts := p :: ps } p = true then (0, { x with parts := p :: ps }) else goQ ps (passP { x with parts := ps, dn := 0 } p)
def abortP (x : PT) (c : Int) : Int × PT := goQ [10, 11] { x with alive := false, cause := c, made := 0, parts := [10, 11], dn := 0 }
def goP : List Int → PT → Int × PT
  | [], x => (endP x, { x with parts := [] })
  | p :: ps, x => if leftP { x with parts := p :: ps } p = true then (0, { x with parts := p :: ps })
    else if passC { x with parts := ps, dn := 0 } p ≠ 0 then abortP (passP { x with parts := ps, dn := 0 } p) (passC { x with parts := ps, dn := 0 } p)
    else goP ps (passP { x with parts := ps, dn := 0 } p)
def goOnP (x : PT) : Int × PT := goP x.parts x
def askP (x : PT) (ps : List Int) : Int × PT := goOnP { x with parts := ps, dn := 0 }
def pBegin (x : PT) : Int × PT :=
  if x.alive = true ∨ x.parts ≠ [] then (2, x)
  else askP { x with rs := [], ws := [], asked := 0, wt := [], alive := true, sure := false, cause := 0, made := 0, val := 0 } [0, 13]
def pWatch (x : PT) (a v : Int) : PT := if x.alive = true then { x with wt := x.wt ++ [(a, v)] } else x
def askN (ws : List Wd) (k : Int) (n : Nat) : Nat := if mayL ws k = true then n + 1 else n
def hasP (x : PT) (a : Int) : Bool := decide (0 ≤ a) && decide (a < x.m.size)
def pRead (x : PT) (a : Int) : Int × PT :=
  if x.alive = true ∧ x.parts = [] then
    if hasL x.ws a = true then (1, { x with asked := askN x.ws a x.asked, val := valL x.ws a })
    else if hasP x a = false ∨ roomL x.mr x.rs a = false then abortP { x with asked := askN x.ws a x.asked } 4
    else askP { x with asked := askN x.ws a x.asked, at_ := a } [4, 5, 3, 12]
  else (2, x)
def pWrite (x : PT) (a v : Int) : Int × PT :=
  if x.alive = true ∧ x.parts = [] then
    if hasP x a = false then abortP x 4
    else if wputB x.mw x.ws a = true then (1, { x with ws := wputL x.mw x.ws a v }) else abortP { x with ws := wputL x.mw x.ws a v } 4
  else (2, x)
def pCommit (x : PT) : Int × PT :=
  if x.alive = true ∧ x.parts = [] then
    if x.ws = [] then askP x [6, 3, 15, 11, 16]
    else askP x [6, 14, 7, 3, 15, 8, 9, 11, 16]
  else (2, x)
def pKill (x : PT) (c : Int) : Int × PT := if x.alive = true ∧ x.sure = false then abortP x c else (1, x)
/-- A word looked at: the cause, if another one stands there. -/
def unlikeC (s : MS) (d : Wd) (c : Int) : Int := if s.vAt d.1 ≠ d.2 then c else 0
/-- An access: the cause that is found by it; how the attempt and the words are then. -/
def accP (s : MS) (x : PT) (p : Int) (i : Nat) : Int × PT × MS :=
  if p = 0 then (0, { x with now := s.vAt x.seqP }, s.loaded x.seqP)
  else if p = 1 then (unlikeC s (x.rs.getD i (0, 0)) 2, x, s.loaded (x.rs.getD i (0, 0)).1)
  else if p = 2 then (unlikeC s (x.seqP, x.now) (-2), x, s.loaded x.seqP)
  else if p = 3 then (unlikeC s (x.wt.getD i (0, 0)) 3, x, s.loaded (x.wt.getD i (0, 0)).1)
  else if p = 4 then (0, { x with got := s.vAt x.at_ }, s.loaded x.at_)
  else if p = 5 then (unlikeC s (x.seqP, x.stamp) (-1), x, s.loaded x.seqP)
  else if p = 6 then (0, { x with phased := true }, s.stored x.phaseP 2)
  else if p = 7 then
    if s.okAt x.seqP x.stamp = true then (0, { x with claimed := true, made := x.next }, s.swapped x.seqP x.stamp (wrap64 (x.stamp + 1)))
    else (-1, x, s.swapped x.seqP x.stamp (wrap64 (x.stamp + 1)))
  else if p = 8 then (0, x, s.stored (x.ws.getD i (0, 0)).1 (x.ws.getD i (0, 0)).2)
  else if p = 9 then (0, { x with claimed := false }, s.stored x.seqP x.made)
  else if p = 10 then (0, { x with claimed := false }, s.stored x.seqP x.stamp)
  else (0, { x with phased := false }, s.stored x.phaseP 0)
def aheadP (p : Int) : Int := if p = 5 then 4 else 14
def putP (x : PT) (ps : List Int) : PT := { x with parts := ps ++ x.parts, dn := 0 }
def stepsP (s : MS) (x : PT) (p : Int) : Int × PT × MS :=
  if (accP s x p x.dn).1 = 0 then ((goOnP { (accP s x p x.dn).2.1 with dn := x.dn + 1 }).1, (goOnP { (accP s x p x.dn).2.1 with dn := x.dn + 1 }).2, (accP s x p x.dn).2.2)
  else if (accP s x p x.dn).1 = -1 then ((goOnP (putP (putP (accP s x p x.dn).2.1 [2, 3, 13, aheadP p]) [0, 1])).1, (goOnP (putP (putP (accP s x p x.dn).2.1 [2, 3, 13, aheadP p]) [0, 1])).2, (accP s x p x.dn).2.2)
  else if (accP s x p x.dn).1 = -2 then ((goOnP (putP (accP s x p x.dn).2.1 [0, 1])).1, (goOnP (putP (accP s x p x.dn).2.1 [0, 1])).2, (accP s x p x.dn).2.2)
  else ((abortP (accP s x p x.dn).2.1 (accP s x p x.dn).1).1, (abortP (accP s x p x.dn).2.1 (accP s x p x.dn).1).2, (accP s x p x.dn).2.2)
def pStep (s : MS) (x : PT) : Int × PT × MS :=
  match x.parts with
  | [] => (1, x, s)
  | p :: _ => stepsP s x p
/-- The parts that are asked for. -/
def isPart (p : Int) : Prop := p = 0 ∨ p = 1 ∨ p = 2 ∨ p = 3 ∨ p = 4 ∨ p = 5 ∨ p = 6 ∨ p = 7 ∨ p = 8 ∨ p = 9 ∨ p = 10 ∨ p = 11 ∨ p = 12 ∨ p = 13 ∨ p = 14 ∨ p = 15 ∨ p = 16

end Go.Proofs.Ytjfinnjmcnjciaa
