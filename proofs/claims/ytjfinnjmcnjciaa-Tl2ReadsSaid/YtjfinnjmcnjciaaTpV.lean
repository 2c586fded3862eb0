/-
  THE PROGRAM'S ATTEMPT WITH STRIPES, in plain words: what is left of what was asked is a list of parts; each call, each access; and that it is the attempt of the document's, call by call, access by access. The program's attempt and the document's, side by side: each call, each access is the same on both. The program's attempt and the document's: each access is the same on both. The program's attempt and the document's: each access of a Commit, of what is undone; any access; each call. The program's attempt and the document's: the last accesses of a Commit, what is undone; any access; each call. The program's attempt and the document's: each call is the same on both.
-/
import Derived.Test.YtjfinnjmcnjciaaTlR
namespace Go.Proofs.Ytjfinnjmcnjciaa
open Go.RowKit

structure PT where
  m : PM
  th : Int
  ck : Int
  top : Int
  mr : Nat
  mw : Nat
  rs : List Wd
  ws : List Wd
  asked : Nat
  wt : List Wd
  alive : Bool
  sure : Bool
  cause : Int
  stamp : Int
  made : Int
  val : Int
  parts : List Int
  dn : Nat
  at_ : Int
  row : Int
  saw : Int
  got : Int
  now : Int
  rows : List Int
  old : List Int
  phased : Bool
  bump : BD

def PT.new (m : PM) (th ck : Int) (mr mw : Nat) (top : Int) : PT := ⟨m, th, ck, top, mr, mw, [], [], 0, [], false, false, 0, 0, 0, 0, [], 0, 0, 0, 0, 0, 0, [], [], false, b0⟩
def PT.stripeP (x : PT) (k : Int) : Int := x.m.at_ 2 k 0
def PT.phaseP (x : PT) : Int := x.m.at_ 4 x.th 0
def aloneP (x : PT) : Bool := decide (x.bump.k = 1) && decide (x.made = wrap64 (x.stamp + 1))
/-- Whether a part has an access left. -/
def leftP (x : PT) (p : Int) : Bool :=
  if p = 4 then decide (x.dn < x.wt.length)
  else if p = 9 then (if aloneP x = true then false else decide (x.dn < x.rs.length))
  else if p = 7 then decide (x.dn < 2 * x.rows.length)
  else if p = 8 then decide (x.bump.s ≠ 9)
  else if p = 10 then decide (x.dn < x.ws.length)
  else if p = 11 then decide (x.dn < x.rows.length)
  else if p = 12 then decide (x.dn < x.old.length)
  else if p = 13 then x.phased
  else if 14 ≤ p then false
  else decide (x.dn = 0)
def passP (x : PT) (p : Int) : PT :=
  if p = 14 then { x with val := x.got, rs := putL x.mr x.rs x.row 0 }
  else if p = 15 then { x with stamp := x.now }
  else if p = 16 then { x with sure := true }
  else if p = 17 then { x with alive := false, stamp := if x.ws = [] then x.stamp else x.made }
  else x
def endP (x : PT) : Int := if x.alive = false ∧ x.sure = false then 2 else 1
def goP : List Int → PT → Int × PT
  | [], x => (endP x, { x with parts := [] })
  | p :: ps, x => if leftP { x with parts := p :: ps } p = true then (0, { x with parts := p :: ps }) else goP ps { passP { x with parts := p :: ps } p with parts := ps, dn := 0 }
def goOnP (x : PT) : Int × PT := goP x.parts x
def askP (x : PT) (ps : List Int) : Int × PT := goOnP { x with parts := ps, dn := 0 }
def abortP (x : PT) (c : Int) : Int × PT := askP { x with alive := false, cause := c, made := 0 } [12, 13]
def pBegin (x : PT) : Int × PT :=
  if x.alive = true ∨ x.parts ≠ [] then (2, x)
  else askP { x with rs := [], ws := [], asked := 0, wt := [], rows := [], old := [], alive := true, sure := false, cause := 0, made := 0, val := 0 } [0, 15]
def pWatch (x : PT) (a v : Int) : PT := if x.alive = true then { x with wt := x.wt ++ [(a, v)] } else x
def askN (ws : List Wd) (k : Int) (n : Nat) : Nat := if mayL ws k = true then n + 1 else n
def pRead (x : PT) (a : Int) : Int × PT :=
  if x.alive = true ∧ x.parts = [] then
    if hasL x.ws a = true then (1, { x with asked := askN x.ws a x.asked, val := valL x.ws a })
    else if x.m.hash a < 0 ∨ roomL x.mr x.rs (x.m.hash a) = false then abortP { x with asked := askN x.ws a x.asked } 4
    else askP { x with asked := askN x.ws a x.asked, at_ := a, row := x.m.hash a } [1, 2, 3, 4, 14]
  else (2, x)
def pWrite (x : PT) (a v : Int) : Int × PT :=
  if x.alive = true ∧ x.parts = [] then
    if x.m.hash a < 0 then abortP x 4
    else if wputB x.mw x.ws a = true then (1, { x with ws := wputL x.mw x.ws a v }) else abortP { x with ws := wputL x.mw x.ws a v } 4
  else (2, x)
def pCommit (x : PT) : Int × PT :=
  if x.alive = true ∧ x.parts = [] then
    if x.ws = [] then askP x [6, 4, 16, 13, 17]
    else askP { x with rows := rowsL x.m (x.ws.map fun p => p.1) 16, bump := startB x.ck } [6, 7, 8, 9, 4, 16, 10, 11, 13, 17]
  else (2, x)
def pKill (x : PT) (c : Int) : Int × PT := if x.alive = true ∧ x.sure = false then abortP x c else (1, x)
def spoiltP (x : PT) (v : Int) : Int := if holF v ≠ -1 ∧ holF v ≠ x.th then 1 else if x.stamp < verF v then 2 else 0
/-- An access: the cause that is found by it; how the attempt and the words are then. -/
def accP (s : MS) (x : PT) (p : Int) (i : Nat) : Int × PT × MS :=
  if p = 0 then (0, { x with now := s.vAt (x.m.at_ 0 0 0) }, s.loaded (x.m.at_ 0 0 0))
  else if p = 1 then (freshF (s.vAt (x.stripeP x.row)) x.stamp, { x with saw := s.vAt (x.stripeP x.row) }, s.loaded (x.stripeP x.row))
  else if p = 2 then (0, { x with got := s.vAt x.at_ }, s.loaded x.at_)
  else if p = 3 then (if s.vAt (x.stripeP x.row) ≠ x.saw then 2 else 0, x, s.loaded (x.stripeP x.row))
  else if p = 4 then (if s.vAt (x.wt.getD i (0, 0)).1 ≠ (x.wt.getD i (0, 0)).2 then 3 else 0, x, s.loaded (x.wt.getD i (0, 0)).1)
  else if p = 6 then (0, { x with phased := true }, s.stored x.phaseP 2)
  else if p = 7 then
    if i % 2 = 1 then
      if s.okAt (x.stripeP (x.rows.getD (i / 2) 0)) x.saw = true then (0, { x with old := x.old ++ [x.saw] }, s.swapped (x.stripeP (x.rows.getD (i / 2) 0)) x.saw (takeF x.saw x.th))
      else (1, x, s.swapped (x.stripeP (x.rows.getD (i / 2) 0)) x.saw (takeF x.saw x.th))
    else (if holF (s.vAt (x.stripeP (x.rows.getD (i / 2) 0))) ≠ -1 then 1 else 0, { x with saw := s.vAt (x.stripeP (x.rows.getD (i / 2) 0)) }, s.loaded (x.stripeP (x.rows.getD (i / 2) 0)))
  else if p = 8 then
    if (bumpF x.m s x.bump).1.s ≠ 9 then (0, { x with bump := (bumpF x.m s x.bump).1 }, (bumpF x.m s x.bump).2)
    else (if x.top < (bumpF x.m s x.bump).1.p then 5 else 0, { x with bump := (bumpF x.m s x.bump).1, made := (bumpF x.m s x.bump).1.p }, (bumpF x.m s x.bump).2)
  else if p = 9 then (spoiltP x (s.vAt (x.stripeP (x.rs.getD i (0, 0)).1)), x, s.loaded (x.stripeP (x.rs.getD i (0, 0)).1))
  else if p = 10 then (0, x, s.stored (x.ws.getD i (0, 0)).1 (x.ws.getD i (0, 0)).2)
  else if p = 11 then (0, x, s.stored (x.stripeP (x.rows.getD i 0)) (freeF x.made))
  else if p = 12 then (0, x, s.stored (x.stripeP (x.rows.getD i 0)) (x.old.getD i 0))
  else (0, { x with phased := false }, s.stored x.phaseP 0)
def stepsP (s : MS) (x : PT) (p : Int) : Int × PT × MS :=
  if (accP s x p x.dn).1 ≠ 0 then ((abortP (accP s x p x.dn).2.1 (accP s x p x.dn).1).1, (abortP (accP s x p x.dn).2.1 (accP s x p x.dn).1).2, (accP s x p x.dn).2.2)
  else ((goOnP { (accP s x p x.dn).2.1 with dn := x.dn + 1 }).1, (goOnP { (accP s x p x.dn).2.1 with dn := x.dn + 1 }).2, (accP s x p x.dn).2.2)
def pStep (s : MS) (x : PT) : Int × PT × MS :=
  match x.parts with
  | [] => (1, x, s)
  | p :: _ => stepsP s x p

/-! ### What an access keeps -/
theorem goP_len_wt (ps : List Int) : ∀ x : PT, (goP ps x).2.wt = x.wt ∧ (goP ps x).2.m = x.m ∧ (goP ps x).2.mr = x.mr ∧ (goP ps x).2.mw = x.mw ∧ (goP ps x).2.ws = x.ws ∧ (goP ps x).2.asked = x.asked ∧ (goP ps x).2.rows = x.rows ∧ (goP ps x).2.old = x.old := by
  induction ps with
  | nil => intro x; exact ⟨rfl, rfl, rfl, rfl, rfl, rfl, rfl, rfl⟩
  | cons p ps ih =>
    intro x
    unfold goP
    split
    · exact ⟨rfl, rfl, rfl, rfl, rfl, rfl, rfl, rfl⟩
    · obtain ⟨h1, h2, h3, h4, h5, h6, h7, h8⟩ := ih { passP { x with parts := p :: ps } p with parts := ps, dn := 0 }
      rw [h1, h2, h3, h4, h5, h6, h7, h8]
      unfold passP
      split
      · exact ⟨rfl, rfl, rfl, rfl, rfl, rfl, rfl, rfl⟩
      · split
        · exact ⟨rfl, rfl, rfl, rfl, rfl, rfl, rfl, rfl⟩
        · split
          · exact ⟨rfl, rfl, rfl, rfl, rfl, rfl, rfl, rfl⟩
          · split <;> exact ⟨rfl, rfl, rfl, rfl, rfl, rfl, rfl, rfl⟩

end Go.Proofs.Ytjfinnjmcnjciaa

namespace Go.Proofs.Ytjfinnjmcnjciaa
open Go.RowKit

/-- The program's attempt by the document's, and what else it has. -/
def PT.of (x : TX) (parts : List Int) (dn : Nat) (at_ row saw got now : Int) (rows old : List Int) (phased : Bool) (bump : BD) : PT :=
  ⟨x.m, x.th, x.ck, x.top, x.mr, x.mw, x.rs, x.ws, x.asked, x.wt, x.alive, x.sure, x.cause, x.stamp, x.made, x.val, parts, dn, at_, row, saw, got, now, rows, old, phased, bump⟩

inductive RP : PT → TX → Prop
  | idle {x : TX} (dn : Nat) (at_ row saw got now : Int) (rows old : List Int) (bump : BD) (job : x.job = 0) (free : x.alive = true → x.old = [] ∧ x.phased = false ∧ old = [] ∧ x.sure = false) : RP (PT.of x [] dn at_ row saw got now rows old false bump) x
  | beg {x : TX} (at_ row saw got now : Int) (rows : List Int) (bump : BD) (job : x.job = 1) (alive : x.alive = true) (sure : x.sure = false) (old : x.old = []) (ph : x.phased = false) : RP (PT.of x [0, 15] 0 at_ row saw got now rows [] false bump) x
  | rd0 {x : TX} (saw got now : Int) (rows : List Int) (bump : BD) (job : x.job = 2) (st : x.st = 0) (alive : x.alive = true) (sure : x.sure = false) (old : x.old = []) (ph : x.phased = false) (xi : x.i = 0) : RP (PT.of x [1, 2, 3, 4, 14] 0 x.at_ (x.m.hash x.at_) saw got now rows [] false bump) x
  | rd1 {x : TX} (got now : Int) (rows : List Int) (bump : BD) (job : x.job = 2) (st : x.st = 1) (alive : x.alive = true) (sure : x.sure = false) (old : x.old = []) (ph : x.phased = false) (xi : x.i = 0) : RP (PT.of x [2, 3, 4, 14] 0 x.at_ (x.m.hash x.at_) x.pre got now rows [] false bump) x
  | rd2 {x : TX} (now : Int) (rows : List Int) (bump : BD) (job : x.job = 2) (st : x.st = 2) (alive : x.alive = true) (sure : x.sure = false) (old : x.old = []) (ph : x.phased = false) (xi : x.i = 0) : RP (PT.of x [3, 4, 14] 0 x.at_ (x.m.hash x.at_) x.pre x.got now rows [] false bump) x
  | rd3 {x : TX} (saw now : Int) (rows : List Int) (bump : BD) (job : x.job = 2) (st : x.st = 3) (alive : x.alive = true) (sure : x.sure = false) (old : x.old = []) (ph : x.phased = false) (lt : x.i < x.wt.length) : RP (PT.of x [4, 14] x.i x.at_ (x.m.hash x.at_) saw x.got now rows [] false bump) x
  | c0 {x : TX} (at_ row saw got now : Int) (rows : List Int) (bump : BD) (job : x.job = 4) (st : x.st = 0) (alive : x.alive = true) (sure : x.sure = false) (old : x.old = []) (ph : x.phased = false) (ws : x.ws = []) : RP (PT.of x [6, 4, 16, 13, 17] 0 at_ row saw got now rows [] false bump) x
  | c0w {x : TX} (at_ row saw got now : Int) (job : x.job = 4) (st : x.st = 0) (alive : x.alive = true) (sure : x.sure = false) (old : x.old = []) (ph : x.phased = false) (ws : x.ws ≠ []) : RP (PT.of x [6, 7, 8, 9, 4, 16, 10, 11, 13, 17] 0 at_ row saw got now (rowsL x.m (x.ws.map fun p => p.1) 16) [] false (startB x.ck)) x
  | c1 {x : TX} (at_ row saw got now : Int) (job : x.job = 4) (st : x.st = 1) (alive : x.alive = true) (sure : x.sure = false) (ph : x.phased = true) (ws : x.ws ≠ []) (xi : x.i = x.old.length) (lt : x.i < x.rows.length) : RP (PT.of x [7, 8, 9, 4, 16, 10, 11, 13, 17] (2 * x.i) at_ row saw got now x.rows x.old true (startB x.ck)) x
  | c2 {x : TX} (at_ row got now : Int) (job : x.job = 4) (st : x.st = 2) (alive : x.alive = true) (sure : x.sure = false) (ph : x.phased = true) (ws : x.ws ≠ []) (xi : x.i = x.old.length) (lt : x.i < x.rows.length) (i64 : I64 x.pre) : RP (PT.of x [7, 8, 9, 4, 16, 10, 11, 13, 17] (2 * x.i + 1) at_ row x.pre got now x.rows x.old true (startB x.ck)) x
  | c3 {x : TX} (dn : Nat) (at_ row saw got now : Int) (job : x.job = 4) (st : x.st = 3) (alive : x.alive = true) (sure : x.sure = false) (ph : x.phased = true) (ws : x.ws ≠ []) (b9 : x.bump.s ≠ 9) : RP (PT.of x [8, 9, 4, 16, 10, 11, 13, 17] dn at_ row saw got now x.rows x.old true x.bump) x
  | c4 {x : TX} (at_ row saw got now : Int) (job : x.job = 4) (st : x.st = 4) (alive : x.alive = true) (sure : x.sure = false) (ph : x.phased = true) (ws : x.ws ≠ []) (lt : x.i < x.rs.length) (na : ¬ (x.bump.k = 1 ∧ x.made = wrap64 (x.stamp + 1))) : RP (PT.of x [9, 4, 16, 10, 11, 13, 17] x.i at_ row saw got now x.rows x.old true x.bump) x
  | c5 {x : TX} (at_ row saw got now : Int) (rows : List Int) (bump : BD) (job : x.job = 4) (st : x.st = 5) (alive : x.alive = true) (sure : x.sure = false) (ph : x.phased = true) (lt : x.i < x.wt.length) (ws : x.ws = []) (hr : rows = x.rows ∨ x.old = []) : RP (PT.of x [4, 16, 13, 17] x.i at_ row saw got now rows x.old true bump) x
  | c5w {x : TX} (at_ row saw got now : Int) (job : x.job = 4) (st : x.st = 5) (alive : x.alive = true) (sure : x.sure = false) (ph : x.phased = true) (lt : x.i < x.wt.length) (ws : x.ws ≠ []) : RP (PT.of x [4, 16, 10, 11, 13, 17] x.i at_ row saw got now x.rows x.old true x.bump) x
  | c6 {x : TX} (at_ row saw got now : Int) (old : List Int) (job : x.job = 4) (st : x.st = 6) (alive : x.alive = true) (sure : x.sure = true) (lt : x.i < x.ws.length) (hr : x.rows ≠ []) : RP (PT.of x [10, 11, 13, 17] x.i at_ row saw got now x.rows old true x.bump) x
  | c7 {x : TX} (at_ row saw got now : Int) (old : List Int) (job : x.job = 4) (st : x.st = 7) (alive : x.alive = true) (sure : x.sure = true) (lt : x.i < x.rows.length) : RP (PT.of x [11, 13, 17] x.i at_ row saw got now x.rows old true x.bump) x
  | c8 {x : TX} (at_ row saw got now : Int) (rows old : List Int) (bump : BD) (job : x.job = 4) (st : x.st = 8) (alive : x.alive = true) (sure : x.sure = true) : RP (PT.of x [13, 17] 0 at_ row saw got now rows old true bump) x
  | u1 {x : TX} (at_ row saw got now : Int) (bump : BD) (job : x.job = 5) (alive : x.alive = false) (sure : x.sure = false) (lt : x.i < x.old.length) : RP (PT.of x [12, 13] x.i at_ row saw got now x.rows x.old x.phased bump) x
  | u2 {x : TX} (at_ row saw got now : Int) (rows old : List Int) (bump : BD) (job : x.job = 5) (alive : x.alive = false) (sure : x.sure = false) (ph : x.phased = true) (ge : ¬ x.i < x.old.length) : RP (PT.of x [13] 0 at_ row saw got now rows old true bump) x

theorem RP.abort {x : TX} (parts : List Int) (dn : Nat) (at_ row saw got now : Int) (rows : List Int) (bump : BD) (hr : rows = x.rows ∨ x.old = []) (sure : x.sure = false) (c : Int) :
    (abortP (PT.of x parts dn at_ row saw got now rows x.old x.phased bump) c).1 = (x.abort c).1 ∧ RP (abortP (PT.of x parts dn at_ row saw got now rows x.old x.phased bump) c).2 (x.abort c).2 := by
  by_cases ho : x.old = []
  · cases hp : x.phased with
    | false =>
      have e1 : x.abort c = (2, { x with cause := c, made := 0, alive := false, job := 0, st := 0, i := 0 }) := if_pos ⟨ho, hp⟩
      have e2 : abortP (PT.of x parts dn at_ row saw got now rows x.old false bump) c = (2, PT.of { x with cause := c, made := 0, alive := false, job := 0, st := 0, i := 0 } [] 0 at_ row saw got now rows x.old false bump) := by
        rw [ho]
        simp [abortP, askP, goOnP, goP, leftP, passP, endP, PT.of, sure]
      rw [e1, e2]
      exact ⟨rfl, .idle _ _ _ _ _ _ _ _ _ rfl (fun h => by cases h)⟩
    | true =>
      have e1 : x.abort c = (0, { x with cause := c, made := 0, alive := false, job := 5, st := 0, i := 0 }) := if_neg (fun h => by rw [hp] at h; cases h.2)
      have e2 : abortP (PT.of x parts dn at_ row saw got now rows x.old true bump) c = (0, PT.of { x with cause := c, made := 0, alive := false, job := 5, st := 0, i := 0 } [13] 0 at_ row saw got now rows x.old true bump) := by
        rw [ho]
        simp [abortP, askP, goOnP, goP, leftP, passP, endP, PT.of, sure]
      rw [e1, e2]
      exact ⟨rfl, .u2 _ _ _ _ _ _ _ _ rfl rfl sure hp (by rw [ho]; exact Nat.lt_irrefl 0)⟩
  · have hl : 0 < x.old.length := List.length_pos_iff.2 ho
    obtain rfl := hr.resolve_right ho
    have e1 : x.abort c = (0, { x with cause := c, made := 0, alive := false, job := 5, st := 0, i := 0 }) := if_neg (fun h => ho h.1)
    have e2 : abortP (PT.of x parts dn at_ row saw got now x.rows x.old x.phased bump) c = (0, PT.of { x with cause := c, made := 0, alive := false, job := 5, st := 0, i := 0 } [12, 13] 0 at_ row saw got now x.rows x.old x.phased bump) := by
      simp [abortP, askP, goOnP, goP, leftP, passP, endP, PT.of, sure, hl]
    rw [e1, e2]
    exact ⟨rfl, .u1 _ _ _ _ _ _ rfl rfl sure hl⟩

/-- The parts behind what is watched. -/
theorem go_tail0 {x : TX} (dn : Nat) (at_ row saw got now : Int) (rows old : List Int) (bump : BD) (parts : List Int) :
    goP [4, 16, 13, 17] (PT.of x parts dn at_ row saw got now rows old true bump) = if dn < x.wt.length then (0, PT.of x [4, 16, 13, 17] dn at_ row saw got now rows old true bump) else (0, PT.of { x with sure := true } [13, 17] 0 at_ row saw got now rows old true bump) := by
  by_cases h : dn < x.wt.length
  · rw [if_pos h]; simp [goP, leftP, passP, PT.of, h]
  · rw [if_neg h]; simp [goP, leftP, passP, PT.of, h]
theorem go_tail1 {x : TX} (dn : Nat) (at_ row saw got now : Int) (rows old : List Int) (bump : BD) (parts : List Int) (hw : x.ws ≠ []) :
    goP [4, 16, 10, 11, 13, 17] (PT.of x parts dn at_ row saw got now rows old true bump) = if dn < x.wt.length then (0, PT.of x [4, 16, 10, 11, 13, 17] dn at_ row saw got now rows old true bump) else (0, PT.of { x with sure := true } [10, 11, 13, 17] 0 at_ row saw got now rows old true bump) := by
  have hl : 0 < x.ws.length := List.length_pos_iff.2 hw
  by_cases h : dn < x.wt.length
  · rw [if_pos h]; simp [goP, leftP, passP, PT.of, h]
  · rw [if_neg h]; simp [goP, leftP, passP, PT.of, h, hl]
theorem go_check {x : TX} (dn : Nat) (at_ row saw got now : Int) (rows old : List Int) (bump : BD) (parts : List Int) :
    goP [9, 4, 16, 10, 11, 13, 17] (PT.of x parts dn at_ row saw got now rows old true bump) = if ¬ (bump.k = 1 ∧ x.made = wrap64 (x.stamp + 1)) ∧ dn < x.rs.length then (0, PT.of x [9, 4, 16, 10, 11, 13, 17] dn at_ row saw got now rows old true bump) else goP [4, 16, 10, 11, 13, 17] (PT.of x [4, 16, 10, 11, 13, 17] 0 at_ row saw got now rows old true bump) := by
  by_cases ha : bump.k = 1 ∧ x.made = wrap64 (x.stamp + 1)
  · rw [if_neg (fun h => h.1 ha)]
    obtain ⟨h1, h2⟩ := ha
    rw [goP]
    rw [if_neg (by simp [leftP, PT.of, aloneP, h1, ← h2])]
    rfl
  · have hal : (decide (bump.k = 1) && decide (x.made = wrap64 (x.stamp + 1))) = false := by
      rw [Bool.eq_false_iff]; intro h; simp at h; exact ha h
    by_cases hd : dn < x.rs.length
    · rw [if_pos ⟨ha, hd⟩, goP, if_pos (by rw [show leftP { PT.of x parts dn at_ row saw got now rows old true bump with parts := [9, 4, 16, 10, 11, 13, 17] } 9 = (if (decide (bump.k = 1) && decide (x.made = wrap64 (x.stamp + 1))) = true then false else decide (dn < x.rs.length)) from rfl, hal, decide_eq_true hd]; rfl)]
      rfl
    · rw [if_neg (fun h => hd h.2), goP, if_neg (by rw [show leftP { PT.of x parts dn at_ row saw got now rows old true bump with parts := [9, 4, 16, 10, 11, 13, 17] } 9 = (if (decide (bump.k = 1) && decide (x.made = wrap64 (x.stamp + 1))) = true then false else decide (dn < x.rs.length)) from rfl, hal, decide_eq_false hd]; decide)]
      rfl
/-- Behind the last look. -/
theorem RP.tell1 {x : TX} (at_ row saw got now : Int) (parts : List Int) (job : x.job = 4) (st : x.st = 5) (alive : x.alive = true) (sure : x.sure = false) (ph : x.phased = true) (ws : x.ws ≠ []) (hr : x.rows ≠ []) :
    (goP [4, 16, 10, 11, 13, 17] (PT.of x parts x.i at_ row saw got now x.rows x.old true x.bump)).1 = 0 ∧ RP (goP [4, 16, 10, 11, 13, 17] (PT.of x parts x.i at_ row saw got now x.rows x.old true x.bump)).2 x.tell := by
  rw [go_tail1 _ _ _ _ _ _ _ _ _ _ ws]
  by_cases h : x.i < x.wt.length
  · rw [if_pos h, show x.tell = x from if_pos (.inr h)]
    exact ⟨rfl, .c5w _ _ _ _ _ job st alive sure ph h ws⟩
  · rw [if_neg h, show x.tell = { x with sure := true, i := 0, st := if x.ws = [] then 8 else 6 } from if_neg (fun hh => hh.elim (fun h => h st) h), if_neg ws]
    exact ⟨rfl, RP.c6 (x := { x with sure := true, i := 0, st := 6 }) _ _ _ _ _ _ job rfl alive rfl (List.length_pos_iff.2 ws) hr⟩
theorem RP.tell0 {x : TX} (at_ row saw got now : Int) (rows : List Int) (bump : BD) (parts : List Int) (job : x.job = 4) (st : x.st = 5) (alive : x.alive = true) (sure : x.sure = false) (ph : x.phased = true) (ws : x.ws = []) (hr : rows = x.rows ∨ x.old = []) :
    (goP [4, 16, 13, 17] (PT.of x parts x.i at_ row saw got now rows x.old true bump)).1 = 0 ∧ RP (goP [4, 16, 13, 17] (PT.of x parts x.i at_ row saw got now rows x.old true bump)).2 x.tell := by
  rw [go_tail0]
  by_cases h : x.i < x.wt.length
  · rw [if_pos h, show x.tell = x from if_pos (.inr h)]
    exact ⟨rfl, .c5 _ _ _ _ _ _ _ job st alive sure ph h ws hr⟩
  · rw [if_neg h, show x.tell = { x with sure := true, i := 0, st := if x.ws = [] then 8 else 6 } from if_neg (fun hh => hh.elim (fun h => h st) h), if_pos ws]
    exact ⟨rfl, RP.c8 (x := { x with sure := true, i := 0, st := 8 }) _ _ _ _ _ _ _ _ job rfl alive rfl⟩

end Go.Proofs.Ytjfinnjmcnjciaa

namespace Go.Proofs.Ytjfinnjmcnjciaa
open Go.RowKit

/-- What a step of the program's comes to, by a step of the document's. -/
def Alike (a b : Int × PT × MS) (c : Int × TX × MS) : Prop := a = b ∧ b.1 = c.1 ∧ RP b.2.1 c.2.1 ∧ b.2.2 = c.2.2
def Like3 (a : Int × PT × MS) (c : Int × TX × MS) : Prop := a.1 = c.1 ∧ RP a.2.1 c.2.1 ∧ a.2.2 = c.2.2
theorem Like3.of {a : Int × PT × MS} {c : Int × TX × MS} {k : Int} {p : PT} {x : TX} {s : MS} (h1 : a = (k, p, s)) (h2 : c = (k, x, s)) (h : RP p x) : Like3 a c := by subst h1 h2; exact ⟨rfl, h, rfl⟩
theorem Like3.of2 {a : Int × PT × MS} {c : Int × TX × MS} {g : Int × PT} {d : Int × TX} {s : MS} (h1 : a = (g.1, g.2, s)) (h2 : c = (d.1, d.2, s)) (h : g.1 = d.1 ∧ RP g.2 d.2) : Like3 a c := by subst h1 h2; exact ⟨h.1, h.2, rfl⟩
theorem Like3.of0 {a : Int × PT × MS} {c : Int × TX × MS} {g : Int × PT} {t : TX} {s : MS} (h1 : a = (g.1, g.2, s)) (h2 : c = (0, t, s)) (h : g.1 = 0 ∧ RP g.2 t) : Like3 a c := by subst h1 h2; exact ⟨h.1, h.2, rfl⟩
theorem holF_neg (v : Int) : (0 ≤ holF v) ↔ holF v ≠ -1 := by unfold holF; omega

variable {s : MS} {x : TX}
theorem sim_beg (at_ row saw got now : Int) (rows : List Int) (bump : BD) (job : x.job = 1) (alive : x.alive = true) (sure : x.sure = false) (old : x.old = []) (ph : x.phased = false) :
    Like3 (pStep s (PT.of x [0, 15] 0 at_ row saw got now rows [] false bump)) (txStep s x) := by
  refine Like3.of (k := 1) (x := { x with stamp := s.vAt x.clockP, job := 0 }) (s := s.loaded x.clockP) (p := PT.of { x with stamp := s.vAt x.clockP, job := 0 } [] 0 at_ row saw got (s.vAt x.clockP) rows [] false bump) ?_ (if_pos job) (.idle _ _ _ _ _ _ _ _ _ rfl (fun _ => ⟨old, ph, rfl, sure⟩))
  simp [pStep, stepsP, accP, goOnP, goP, leftP, passP, endP, PT.of, TX.clockP, alive]
theorem step_rd2 (job : x.job = 2) : txStep s x = stRead s x := by unfold txStep; rw [if_neg (by rw [job]; decide), if_pos job]
theorem step_com4 (job : x.job = 4) : txStep s x = stCommit s x := by unfold txStep; rw [if_neg (by rw [job]; decide), if_neg (by rw [job]; decide), if_pos job]
theorem step_und (job : x.job = 5) : txStep s x = stUndo s x := by unfold txStep; rw [if_neg (by rw [job]; decide), if_neg (by rw [job]; decide), if_neg (by rw [job]; decide), if_pos job]
theorem sim_rd0 (saw got now : Int) (rows : List Int) (bump : BD) (job : x.job = 2) (st : x.st = 0) (alive : x.alive = true) (sure : x.sure = false) (old : x.old = []) (ph : x.phased = false) (xi : x.i = 0) :
    Like3 (pStep s (PT.of x [1, 2, 3, 4, 14] 0 x.at_ (x.m.hash x.at_) saw got now rows [] false bump)) (txStep s x) := by
  rw [step_rd2 job]
  by_cases hf : freshF (s.vAt (x.stripeP (x.m.hash x.at_))) x.stamp ≠ 0
  · refine Like3.of2 (g := abortP (PT.of { x with pre := s.vAt (x.stripeP (x.m.hash x.at_)) } [1, 2, 3, 4, 14] 0 x.at_ (x.m.hash x.at_) (s.vAt (x.stripeP (x.m.hash x.at_))) got now rows x.old x.phased bump) (freshF (s.vAt (x.stripeP (x.m.hash x.at_))) x.stamp)) ?_ ((if_pos st).trans (if_pos hf)) (RP.abort (x := { x with pre := s.vAt (x.stripeP (x.m.hash x.at_)) }) _ _ _ _ _ _ _ _ _ (.inr old) sure _)
    rw [old, ph]
    show stepsP s _ 1 = _
    exact if_pos hf
  · refine Like3.of ?_ ((if_pos st).trans (if_neg hf)) (RP.rd1 (x := { x with pre := s.vAt (x.stripeP (x.m.hash x.at_)), st := 1 }) got now rows bump job rfl alive sure old ph xi)
    show stepsP s _ 1 = _
    exact (if_neg hf).trans rfl
theorem sim_rd1 (got now : Int) (rows : List Int) (bump : BD) (job : x.job = 2) (st : x.st = 1) (alive : x.alive = true) (sure : x.sure = false) (old : x.old = []) (ph : x.phased = false) (xi : x.i = 0) :
    Like3 (pStep s (PT.of x [2, 3, 4, 14] 0 x.at_ (x.m.hash x.at_) x.pre got now rows [] false bump)) (txStep s x) := by
  rw [step_rd2 job]
  exact Like3.of rfl ((if_neg (by rw [st]; decide)).trans (if_pos st)) (RP.rd2 (x := { x with got := s.vAt x.at_, st := 2 }) now rows bump job rfl alive sure old ph xi)
/-- All is looked at: what was read counts. -/
theorem go_note (i : Nat) (saw now : Int) (rows : List Int) (bump : BD) (parts : List Int) (job : x.job = 2) (st : x.st = 3) (alive : x.alive = true) (sure : x.sure = false) (old : x.old = []) (ph : x.phased = false) (xi : x.i = i) :
    (goP [4, 14] (PT.of x parts i x.at_ (x.m.hash x.at_) saw x.got now rows [] false bump)).1 = (readEnd x).1 ∧ RP (goP [4, 14] (PT.of x parts i x.at_ (x.m.hash x.at_) saw x.got now rows [] false bump)).2 (readEnd x).2 := by
  subst xi
  by_cases h : x.i < x.wt.length
  · rw [show readEnd x = (0, x) from if_pos h, show goP [4, 14] (PT.of x parts x.i x.at_ (x.m.hash x.at_) saw x.got now rows [] false bump) = (0, PT.of x [4, 14] x.i x.at_ (x.m.hash x.at_) saw x.got now rows [] false bump) from by simp [goP, leftP, passP, PT.of, h]]
    exact ⟨rfl, .rd3 _ _ _ _ job st alive sure old ph h⟩
  · rw [show readEnd x = (1, { x with val := x.got, rs := putL x.mr x.rs (x.m.hash x.at_) 0, job := 0 }) from if_neg h,
      show goP [4, 14] (PT.of x parts x.i x.at_ (x.m.hash x.at_) saw x.got now rows [] false bump) = (1, PT.of { x with val := x.got, rs := putL x.mr x.rs (x.m.hash x.at_) 0 } [] 0 x.at_ (x.m.hash x.at_) saw x.got now rows [] false bump) from by simp [goP, leftP, passP, endP, PT.of, h, alive]]
    exact ⟨rfl, RP.idle (x := { x with val := x.got, rs := putL x.mr x.rs (x.m.hash x.at_) 0, job := 0 }) _ _ _ _ _ _ _ _ _ rfl (fun _ => ⟨old, ph, rfl, sure⟩)⟩
theorem sim_rd2 (now : Int) (rows : List Int) (bump : BD) (job : x.job = 2) (st : x.st = 2) (alive : x.alive = true) (sure : x.sure = false) (old : x.old = []) (ph : x.phased = false) (xi : x.i = 0) :
    Like3 (pStep s (PT.of x [3, 4, 14] 0 x.at_ (x.m.hash x.at_) x.pre x.got now rows [] false bump)) (txStep s x) := by
  rw [step_rd2 job]
  have e0 : stRead s x = if s.vAt (x.stripeP (x.m.hash x.at_)) ≠ x.pre then ((x.abort 2).1, (x.abort 2).2, s.loaded (x.stripeP (x.m.hash x.at_))) else ((readEnd { x with st := 3 }).1, (readEnd { x with st := 3 }).2, s.loaded (x.stripeP (x.m.hash x.at_))) :=
    (if_neg (by rw [st]; decide)).trans ((if_neg (by rw [st]; decide)).trans (if_pos st))
  by_cases hf : s.vAt (x.stripeP (x.m.hash x.at_)) ≠ x.pre
  · refine Like3.of2 (g := abortP (PT.of x [3, 4, 14] 0 x.at_ (x.m.hash x.at_) x.pre x.got now rows x.old x.phased bump) 2) ?_ (e0.trans (if_pos hf)) (RP.abort _ _ _ _ _ _ _ _ _ (.inr old) sure _)
    rw [old, ph]
    show stepsP s _ 3 = _
    have e : (accP s (PT.of x [3, 4, 14] 0 x.at_ (x.m.hash x.at_) x.pre x.got now rows [] false bump) 3 0).1 = 2 := if_pos hf
    refine (if_pos (by show (accP s (PT.of x [3, 4, 14] 0 x.at_ (x.m.hash x.at_) x.pre x.got now rows [] false bump) 3 0).1 ≠ 0; rw [e]; decide)).trans ?_
    show (_, _, _) = _
    rw [show (accP s (PT.of x [3, 4, 14] 0 x.at_ (x.m.hash x.at_) x.pre x.got now rows [] false bump) 3 (PT.of x [3, 4, 14] 0 x.at_ (x.m.hash x.at_) x.pre x.got now rows [] false bump).dn).1 = 2 from e]
    rfl
  · refine Like3.of2 ?_ (e0.trans (if_neg hf)) (go_note (x := { x with st := 3 }) 0 x.pre now rows bump [4, 14] job rfl alive sure old ph xi)
    show stepsP s _ 3 = _
    have e : (accP s (PT.of x [3, 4, 14] 0 x.at_ (x.m.hash x.at_) x.pre x.got now rows [] false bump) 3 0).1 = 0 := if_neg hf
    exact (if_neg (fun hn => hn e)).trans rfl
theorem watch_fst (h : s.vAt (x.wt.getD x.i (0, 0)).1 = (x.wt.getD x.i (0, 0)).2) : watchF s x = (if x.i + 1 = x.wt.length then 1 else 0, { x with i := x.i + 1 }, s.loaded (x.wt.getD x.i (0, 0)).1) := if_neg (fun hn => hn h)
theorem watch_bad (h : s.vAt (x.wt.getD x.i (0, 0)).1 ≠ (x.wt.getD x.i (0, 0)).2) : watchF s x = (2, x, s.loaded (x.wt.getD x.i (0, 0)).1) := if_pos h
theorem sim_rd3 (saw now : Int) (rows : List Int) (bump : BD) (job : x.job = 2) (st : x.st = 3) (alive : x.alive = true) (sure : x.sure = false) (old : x.old = []) (ph : x.phased = false) (lt : x.i < x.wt.length) :
    Like3 (pStep s (PT.of x [4, 14] x.i x.at_ (x.m.hash x.at_) saw x.got now rows [] false bump)) (txStep s x) := by
  rw [step_rd2 job]
  have e0 : stRead s x = if (watchF s x).1 = 0 then (0, (watchF s x).2) else if (watchF s x).1 = 2 then ((x.abort 3).1, (x.abort 3).2, (watchF s x).2.2) else ((readEnd (watchF s x).2.1).1, (readEnd (watchF s x).2.1).2, (watchF s x).2.2) :=
    (if_neg (by rw [st]; decide)).trans ((if_neg (by rw [st]; decide)).trans (if_neg (by rw [st]; decide)))
  by_cases hf : s.vAt (x.wt.getD x.i (0, 0)).1 ≠ (x.wt.getD x.i (0, 0)).2
  · rw [watch_bad hf, if_neg (show ¬ (2 : Int) = 0 by decide), if_pos rfl] at e0
    refine Like3.of2 (g := abortP (PT.of x [4, 14] x.i x.at_ (x.m.hash x.at_) saw x.got now rows x.old x.phased bump) 3) ?_ e0 (RP.abort _ _ _ _ _ _ _ _ _ (.inr old) sure _)
    rw [old, ph]
    show stepsP s _ 4 = _
    have e : (accP s (PT.of x [4, 14] x.i x.at_ (x.m.hash x.at_) saw x.got now rows [] false bump) 4 x.i).1 = 3 := if_pos hf
    refine (if_pos (by show (accP s (PT.of x [4, 14] x.i x.at_ (x.m.hash x.at_) saw x.got now rows [] false bump) 4 x.i).1 ≠ 0; rw [e]; decide)).trans ?_
    show (_, _, _) = _
    rw [show (accP s (PT.of x [4, 14] x.i x.at_ (x.m.hash x.at_) saw x.got now rows [] false bump) 4 (PT.of x [4, 14] x.i x.at_ (x.m.hash x.at_) saw x.got now rows [] false bump).dn).1 = 3 from e]
    rfl
  · have hf' : s.vAt (x.wt.getD x.i (0, 0)).1 = (x.wt.getD x.i (0, 0)).2 := Decidable.not_not.1 hf
    have e1 : stRead s x = ((readEnd { x with i := x.i + 1 }).1, (readEnd { x with i := x.i + 1 }).2, s.loaded (x.wt.getD x.i (0, 0)).1) := by
      rw [e0, watch_fst hf']
      by_cases hl : x.i + 1 = x.wt.length
      · rw [if_pos hl, if_neg (show ¬ (1 : Int) = 0 by decide), if_neg (show ¬ (1 : Int) = 2 by decide)]
      · rw [if_neg hl, if_pos rfl, show readEnd { x with i := x.i + 1 } = (0, { x with i := x.i + 1 }) from if_pos (by show x.i + 1 < x.wt.length; omega)]
    refine Like3.of2 ?_ e1 (go_note (x := { x with i := x.i + 1 }) (x.i + 1) saw now rows bump [4, 14] job st alive sure old ph rfl)
    show stepsP s _ 4 = _
    have e : (accP s (PT.of x [4, 14] x.i x.at_ (x.m.hash x.at_) saw x.got now rows [] false bump) 4 x.i).1 = 0 := if_neg hf
    exact (if_neg (fun hn => hn e)).trans rfl

end Go.Proofs.Ytjfinnjmcnjciaa

namespace Go.Proofs.Ytjfinnjmcnjciaa
open Go.RowKit

variable {s : MS} {x : TX}
/-- A step whose access finds a cause; one whose access finds none. -/
theorem stepsP_bad {p : Int} {y : PT} {c : Int} {q : PT} {s' : MS} (h : accP s y p y.dn = (c, q, s')) (hc : c ≠ 0) : stepsP s y p = ((abortP q c).1, (abortP q c).2, s') := by
  unfold stepsP; rw [h]; exact if_pos hc
theorem stepsP_ok {p : Int} {y : PT} {q : PT} {s' : MS} (h : accP s y p y.dn = (0, q, s')) : stepsP s y p = ((goOnP { q with dn := y.dn + 1 }).1, (goOnP { q with dn := y.dn + 1 }).2, s') := by
  unfold stepsP; rw [h]; exact if_neg (fun h => h rfl)
theorem sim_c0 (at_ row saw got now : Int) (rows : List Int) (bump : BD) (job : x.job = 4) (st : x.st = 0) (alive : x.alive = true) (sure : x.sure = false) (old : x.old = []) (ph : x.phased = false) (ws : x.ws = []) :
    Like3 (pStep s (PT.of x [6, 4, 16, 13, 17] 0 at_ row saw got now rows [] false bump)) (txStep s x) := by
  rw [step_com4 job]
  have e0 : stCommit s x = (0, ({ x with phased := true, i := 0, st := 5 } : TX).tell, s.stored x.phaseP 2) := by
    refine (if_pos st).trans ?_
    rw [if_pos ws, if_pos ws]
  have h := RP.tell0 (x := { x with phased := true, i := 0, st := 5 }) at_ row saw got now rows bump [4, 16, 13, 17] job rfl alive sure rfl ws (.inr old)
  refine Like3.of2 (d := (0, ({ x with phased := true, i := 0, st := 5 } : TX).tell)) ?_ e0 h
  show stepsP s _ 6 = _
  rw [stepsP_ok (q := PT.of { x with phased := true, i := 0, st := 5 } [6, 4, 16, 13, 17] 0 at_ row saw got now rows [] true bump) (s' := s.stored x.phaseP 2) rfl, show x.old = [] from old]
  rfl
theorem sim_c0w (at_ row saw got now : Int) (job : x.job = 4) (st : x.st = 0) (alive : x.alive = true) (sure : x.sure = false) (old : x.old = []) (ph : x.phased = false) (ws : x.ws ≠ [])
    (hm : x.m.Ok) (hne : rowsL x.m (x.ws.map fun p => p.1) x.m.s.toNat ≠ []) :
    Like3 (pStep s (PT.of x [6, 7, 8, 9, 4, 16, 10, 11, 13, 17] 0 at_ row saw got now (rowsL x.m (x.ws.map fun p => p.1) 16) [] false (startB x.ck))) (txStep s x) := by
  rw [step_com4 job, rowsL_ok hm]
  obtain ⟨rows, hrows⟩ : ∃ rows, rows = rowsL x.m (x.ws.map fun p => p.1) x.m.s.toNat := ⟨_, rfl⟩
  rw [← hrows] at hne ⊢
  have e0 : stCommit s x = (0, { x with phased := true, i := 0, st := 1, rows := rows }, s.stored x.phaseP 2) := by
    refine (if_pos st).trans ?_
    rw [if_neg ws, if_neg ws, ← hrows]
    refine congrArg (fun y => (0, y, s.stored x.phaseP 2)) ?_
    exact if_pos (.inl (show ¬ (1 : Int) = 5 by decide))
  have hl : 0 < rows.length := List.length_pos_iff.2 hne
  refine Like3.of (p := PT.of { x with phased := true, i := 0, st := 1, rows := rows } [7, 8, 9, 4, 16, 10, 11, 13, 17] (2 * 0) at_ row saw got now rows x.old true (startB x.ck)) ?_ e0 (RP.c1 (x := { x with phased := true, i := 0, st := 1, rows := rows }) at_ row saw got now job rfl alive sure rfl ws (by rw [old]; rfl) hl)
  show stepsP s _ 6 = _
  rw [stepsP_ok (q := PT.of { x with phased := true, i := 0, st := 1, rows := rows } [6, 7, 8, 9, 4, 16, 10, 11, 13, 17] 0 at_ row saw got now rows [] true (startB x.ck)) (s' := s.stored x.phaseP 2) rfl, old]
  show ((goP [6, 7, 8, 9, 4, 16, 10, 11, 13, 17] _).1, (goP [6, 7, 8, 9, 4, 16, 10, 11, 13, 17] _).2, _) = _
  rw [goP, if_neg (by simp [leftP, PT.of])]
  rw [goP, if_pos (by simp [leftP, passP, PT.of, hl])]
  rfl
theorem sim_c1 (at_ row saw got now : Int) (job : x.job = 4) (st : x.st = 1) (alive : x.alive = true) (sure : x.sure = false) (ph : x.phased = true) (ws : x.ws ≠ []) (xi : x.i = x.old.length) (lt : x.i < x.rows.length)
    (hi : I64 (s.vAt (x.stripeP (x.rows.getD x.i 0)))) :
    Like3 (pStep s (PT.of x [7, 8, 9, 4, 16, 10, 11, 13, 17] (2 * x.i) at_ row saw got now x.rows x.old true (startB x.ck))) (txStep s x) := by
  rw [step_com4 job]
  obtain ⟨v, hv⟩ : ∃ v, s.vAt (x.stripeP (x.rows.getD x.i 0)) = v := ⟨_, rfl⟩
  rw [hv] at hi
  have e0 : stCommit s x = if 0 ≤ holF v then ((({ x with pre := v } : TX).abort 1).1, (({ x with pre := v } : TX).abort 1).2, s.loaded (x.stripeP (x.rows.getD x.i 0))) else (0, { x with pre := v, st := 2 }, s.loaded (x.stripeP (x.rows.getD x.i 0))) := by
    rw [← hv]
    exact (if_neg (by rw [st]; decide)).trans (if_pos st)
  have ea : accP s (PT.of x [7, 8, 9, 4, 16, 10, 11, 13, 17] (2 * x.i) at_ row saw got now x.rows x.old true (startB x.ck)) 7 (2 * x.i) =
      (if holF v ≠ -1 then 1 else 0, PT.of { x with pre := v } [7, 8, 9, 4, 16, 10, 11, 13, 17] (2 * x.i) at_ row v got now x.rows x.old true (startB x.ck), s.loaded (x.stripeP (x.rows.getD x.i 0))) := by
    have h1 : ¬ (2 * x.i) % 2 = 1 := by omega
    have h2 : 2 * x.i / 2 = x.i := by omega
    show (if (2 * x.i) % 2 = 1 then _ else _) = _
    rw [if_neg h1, h2]
    show (if holF (s.vAt (x.stripeP (x.rows.getD x.i 0))) ≠ -1 then (1 : Int) else 0, _, _) = _
    have hv' : s.vAt ((PT.of x [7, 8, 9, 4, 16, 10, 11, 13, 17] (2 * x.i) at_ row saw got now x.rows x.old true (startB x.ck)).stripeP ((PT.of x [7, 8, 9, 4, 16, 10, 11, 13, 17] (2 * x.i) at_ row saw got now x.rows x.old true (startB x.ck)).rows.getD x.i 0)) = v := hv
    rw [hv, hv']
    rfl
  by_cases hh : holF v ≠ -1
  · rw [if_pos hh] at ea
    refine Like3.of2 ?_ (e0.trans (if_pos ((holF_neg v).2 hh))) (RP.abort (x := { x with pre := v }) [7, 8, 9, 4, 16, 10, 11, 13, 17] (2 * x.i) at_ row v got now x.rows (startB x.ck) (.inl rfl) sure 1)
    show stepsP s _ 7 = _
    rw [stepsP_bad ea (by decide), show ({ x with pre := v } : TX).phased = true from ph]
  · rw [if_neg hh] at ea
    refine Like3.of ?_ (e0.trans (if_neg (fun h => hh ((holF_neg v).1 h)))) (RP.c2 (x := { x with pre := v, st := 2 }) at_ row got now job rfl alive sure ph ws xi lt hi)
    show stepsP s _ 7 = _
    rw [stepsP_ok ea]
    show ((goP [7, 8, 9, 4, 16, 10, 11, 13, 17] _).1, (goP [7, 8, 9, 4, 16, 10, 11, 13, 17] _).2, _) = _
    rw [goP, if_pos (by show decide (2 * x.i + 1 < 2 * x.rows.length) = true; rw [decide_eq_true]; omega)]
    rfl
theorem startB_s (c : Int) : (startB c).s ≠ 9 := by unfold startB; split; · decide
                                                    · split <;> decide
theorem sim_c2 (at_ row got now : Int) (job : x.job = 4) (st : x.st = 2) (alive : x.alive = true) (sure : x.sure = false) (ph : x.phased = true) (ws : x.ws ≠ []) (xi : x.i = x.old.length) (lt : x.i < x.rows.length) :
    Like3 (pStep s (PT.of x [7, 8, 9, 4, 16, 10, 11, 13, 17] (2 * x.i + 1) at_ row x.pre got now x.rows x.old true (startB x.ck))) (txStep s x) := by
  rw [step_com4 job]
  have e0 : stCommit s x = if s.okAt (x.stripeP (x.rows.getD x.i 0)) x.pre = true then
      (0, if x.i + 1 = x.rows.length then { x with old := x.old ++ [x.pre], i := x.i + 1, st := 3, bump := startB x.ck } else { x with old := x.old ++ [x.pre], i := x.i + 1, st := 1 },
        s.swapped (x.stripeP (x.rows.getD x.i 0)) x.pre (takeF x.pre x.th))
      else ((x.abort 1).1, (x.abort 1).2, s.swapped (x.stripeP (x.rows.getD x.i 0)) x.pre (takeF x.pre x.th)) :=
    (if_neg (by rw [st]; decide)).trans ((if_neg (by rw [st]; decide)).trans (if_pos st))
  have ea : accP s (PT.of x [7, 8, 9, 4, 16, 10, 11, 13, 17] (2 * x.i + 1) at_ row x.pre got now x.rows x.old true (startB x.ck)) 7 (2 * x.i + 1) =
      if s.okAt (x.stripeP (x.rows.getD x.i 0)) x.pre = true then (0, PT.of x [7, 8, 9, 4, 16, 10, 11, 13, 17] (2 * x.i + 1) at_ row x.pre got now x.rows (x.old ++ [x.pre]) true (startB x.ck), s.swapped (x.stripeP (x.rows.getD x.i 0)) x.pre (takeF x.pre x.th))
      else (1, PT.of x [7, 8, 9, 4, 16, 10, 11, 13, 17] (2 * x.i + 1) at_ row x.pre got now x.rows x.old true (startB x.ck), s.swapped (x.stripeP (x.rows.getD x.i 0)) x.pre (takeF x.pre x.th)) := by
    have h1 : (2 * x.i + 1) % 2 = 1 := by omega
    have h2 : (2 * x.i + 1) / 2 = x.i := by omega
    show (if (2 * x.i + 1) % 2 = 1 then _ else _) = _
    rw [if_pos h1, h2]
    rfl
  by_cases hh : s.okAt (x.stripeP (x.rows.getD x.i 0)) x.pre = true
  · rw [if_pos hh] at ea e0
    by_cases hl : x.i + 1 = x.rows.length
    · rw [if_pos hl] at e0
      refine Like3.of ?_ e0 (RP.c3 (x := { x with old := x.old ++ [x.pre], i := x.i + 1, st := 3, bump := startB x.ck }) 0 at_ row x.pre got now job rfl alive sure ph ws (startB_s _))
      show stepsP s _ 7 = _
      rw [stepsP_ok ea]
      show ((goP [7, 8, 9, 4, 16, 10, 11, 13, 17] _).1, (goP [7, 8, 9, 4, 16, 10, 11, 13, 17] _).2, _) = _
      rw [goP, if_neg (by show ¬ decide (2 * x.i + 1 + 1 < 2 * x.rows.length) = true; rw [decide_eq_false (by omega)]; decide)]
      rw [goP, if_pos (by show decide ((startB x.ck).s ≠ 9) = true; exact decide_eq_true (startB_s _))]
      rfl
    · rw [if_neg hl] at e0
      refine Like3.of ?_ e0 (RP.c1 (x := { x with old := x.old ++ [x.pre], i := x.i + 1, st := 1 }) at_ row x.pre got now job rfl alive sure ph ws (by show x.i + 1 = (x.old ++ [x.pre]).length; rw [List.length_append, List.length_singleton, xi]) (by show x.i + 1 < x.rows.length; omega))
      show stepsP s _ 7 = _
      rw [stepsP_ok ea]
      show ((goP [7, 8, 9, 4, 16, 10, 11, 13, 17] _).1, (goP [7, 8, 9, 4, 16, 10, 11, 13, 17] _).2, _) = _
      rw [goP, if_pos (by show decide (2 * x.i + 1 + 1 < 2 * x.rows.length) = true; exact decide_eq_true (by omega))]
      rfl
  · rw [if_neg hh] at ea e0
    refine Like3.of2 ?_ e0 (RP.abort (x := x) [7, 8, 9, 4, 16, 10, 11, 13, 17] (2 * x.i + 1) at_ row x.pre got now x.rows (startB x.ck) (.inl rfl) sure 1)
    show stepsP s _ 7 = _
    rw [stepsP_bad ea (by decide), ph]
theorem sim_c3 (dn : Nat) (at_ row saw got now : Int) (job : x.job = 4) (st : x.st = 3) (alive : x.alive = true) (sure : x.sure = false) (ph : x.phased = true) (ws : x.ws ≠ []) (hr : x.rows ≠ []) :
    Like3 (pStep s (PT.of x [8, 9, 4, 16, 10, 11, 13, 17] dn at_ row saw got now x.rows x.old true x.bump)) (txStep s x) := by
  rw [step_com4 job]
  obtain ⟨⟨b, s'⟩, hb⟩ : ∃ r, bumpF x.m s x.bump = r := ⟨_, rfl⟩
  have e0 : stCommit s x = if b.s ≠ 9 then (0, { x with bump := b }, s') else if x.top < b.p then ((({ x with bump := b, made := b.p } : TX).abort 5).1, (({ x with bump := b, made := b.p } : TX).abort 5).2, s')
      else (0, ({ x with bump := b, made := b.p, i := 0, st := if (b.k = 1 ∧ b.p = wrap64 (x.stamp + 1)) ∨ x.rs = [] then 5 else 4 } : TX).tell, s') := by
    unfold stCommit
    rw [if_neg (show ¬ x.st = 0 by rw [st]; decide), if_neg (show ¬ x.st = 1 by rw [st]; decide), if_neg (show ¬ x.st = 2 by rw [st]; decide), if_pos st, hb]
  have ea : accP s (PT.of x [8, 9, 4, 16, 10, 11, 13, 17] dn at_ row saw got now x.rows x.old true x.bump) 8 dn =
      if b.s ≠ 9 then (0, PT.of { x with bump := b } [8, 9, 4, 16, 10, 11, 13, 17] dn at_ row saw got now x.rows x.old true b, s') else (if x.top < b.p then 5 else 0, PT.of { x with bump := b, made := b.p } [8, 9, 4, 16, 10, 11, 13, 17] dn at_ row saw got now x.rows x.old true b, s') := by
    show (if (bumpF x.m s x.bump).1.s ≠ 9 then _ else _) = _
    have hb' : bumpF (PT.of x [8, 9, 4, 16, 10, 11, 13, 17] dn at_ row saw got now x.rows x.old true x.bump).m s (PT.of x [8, 9, 4, 16, 10, 11, 13, 17] dn at_ row saw got now x.rows x.old true x.bump).bump = (b, s') := hb
    rw [hb, hb']
    rfl
  by_cases h9 : b.s ≠ 9
  · rw [if_pos h9] at ea e0
    refine Like3.of ?_ e0 (RP.c3 (x := { x with bump := b }) (dn + 1) at_ row saw got now job st alive sure ph ws h9)
    show stepsP s _ 8 = _
    rw [stepsP_ok ea]
    show ((goP [8, 9, 4, 16, 10, 11, 13, 17] _).1, (goP [8, 9, 4, 16, 10, 11, 13, 17] _).2, _) = _
    rw [goP, if_pos (by show decide (b.s ≠ 9) = true; exact decide_eq_true h9)]
    rfl
  · rw [if_neg h9] at ea e0
    by_cases ht : x.top < b.p
    · rw [if_pos ht] at ea e0
      refine Like3.of2 ?_ e0 (RP.abort (x := { x with bump := b, made := b.p }) [8, 9, 4, 16, 10, 11, 13, 17] dn at_ row saw got now x.rows b (.inl rfl) sure 5)
      show stepsP s _ 8 = _
      rw [stepsP_bad ea (by decide), show ({ x with bump := b, made := b.p } : TX).phased = true from ph]
    · rw [if_neg ht] at ea e0
      have hs : stepsP s (PT.of x [8, 9, 4, 16, 10, 11, 13, 17] dn at_ row saw got now x.rows x.old true x.bump) 8 =
          ((goP [9, 4, 16, 10, 11, 13, 17] (PT.of { x with bump := b, made := b.p, i := 0, st := if (b.k = 1 ∧ b.p = wrap64 (x.stamp + 1)) ∨ x.rs = [] then 5 else 4 } [9, 4, 16, 10, 11, 13, 17] 0 at_ row saw got now x.rows x.old true b)).1,
            (goP [9, 4, 16, 10, 11, 13, 17] (PT.of { x with bump := b, made := b.p, i := 0, st := if (b.k = 1 ∧ b.p = wrap64 (x.stamp + 1)) ∨ x.rs = [] then 5 else 4 } [9, 4, 16, 10, 11, 13, 17] 0 at_ row saw got now x.rows x.old true b)).2, s') := by
        rw [stepsP_ok ea]
        show ((goP [8, 9, 4, 16, 10, 11, 13, 17] _).1, (goP [8, 9, 4, 16, 10, 11, 13, 17] _).2, _) = _
        rw [goP, if_neg (by show ¬ decide (b.s ≠ 9) = true; rw [decide_eq_false h9]; decide)]
        rfl
      by_cases hk : (b.k = 1 ∧ b.p = wrap64 (x.stamp + 1)) ∨ x.rs = []
      · rw [if_pos hk] at e0 hs
        have h := RP.tell1 (x := { x with bump := b, made := b.p, i := 0, st := 5 }) at_ row saw got now [4, 16, 10, 11, 13, 17] job rfl alive sure ph ws hr
        refine Like3.of0 ?_ e0 h
        show stepsP s _ 8 = _
        rw [hs, go_check, if_neg (fun hh => by
          rcases hk with hk | hk
          · exact hh.1 hk
          · have := hh.2
            rw [show ({ x with bump := b, made := b.p, i := 0, st := 5 } : TX).rs = [] from hk] at this
            exact absurd this (Nat.lt_irrefl 0))]
      · rw [if_neg hk] at e0 hs
        have hl : 0 < x.rs.length := List.length_pos_iff.2 (fun e => hk (.inr e))
        have na : ¬ (b.k = 1 ∧ b.p = wrap64 (x.stamp + 1)) := fun e => hk (.inl e)
        refine Like3.of ?_ (e0.trans (show ((0 : Int), ({ x with bump := b, made := b.p, i := 0, st := 4 } : TX).tell, s') = (0, { x with bump := b, made := b.p, i := 0, st := 4 }, s') from by
          refine congrArg (fun y => ((0 : Int), y, s')) ?_
          exact if_pos (.inl (show ¬ (4 : Int) = 5 by decide)))) (RP.c4 (x := { x with bump := b, made := b.p, i := 0, st := 4 }) at_ row saw got now job rfl alive sure ph ws hl na)
        show stepsP s _ 8 = _
        rw [hs, go_check, if_pos ⟨na, hl⟩]

end Go.Proofs.Ytjfinnjmcnjciaa

namespace Go.Proofs.Ytjfinnjmcnjciaa
open Go.RowKit

variable {s : MS} {x : TX}
theorem sim_c4 (at_ row saw got now : Int) (job : x.job = 4) (st : x.st = 4) (alive : x.alive = true) (sure : x.sure = false) (ph : x.phased = true) (ws : x.ws ≠ []) (lt : x.i < x.rs.length) (na : ¬ (x.bump.k = 1 ∧ x.made = wrap64 (x.stamp + 1))) (hr : x.rows ≠ []) :
    Like3 (pStep s (PT.of x [9, 4, 16, 10, 11, 13, 17] x.i at_ row saw got now x.rows x.old true x.bump)) (txStep s x) := by
  rw [step_com4 job]
  obtain ⟨v, hv⟩ : ∃ v, s.vAt (x.stripeP (x.rs.getD x.i (0, 0)).1) = v := ⟨_, rfl⟩
  have e0 : stCommit s x = if 0 ≤ holF v ∧ holF v ≠ x.th then ((x.abort 1).1, (x.abort 1).2, s.loaded (x.stripeP (x.rs.getD x.i (0, 0)).1))
      else if x.stamp < verF v then ((x.abort 2).1, (x.abort 2).2, s.loaded (x.stripeP (x.rs.getD x.i (0, 0)).1))
      else (0, if x.i + 1 < x.rs.length then { x with i := x.i + 1 } else ({ x with st := 5, i := 0 } : TX).tell, s.loaded (x.stripeP (x.rs.getD x.i (0, 0)).1)) := by
    unfold stCommit
    rw [if_neg (show ¬ x.st = 0 by rw [st]; decide), if_neg (show ¬ x.st = 1 by rw [st]; decide), if_neg (show ¬ x.st = 2 by rw [st]; decide), if_neg (show ¬ x.st = 3 by rw [st]; decide), if_pos st, hv]
  have ea : accP s (PT.of x [9, 4, 16, 10, 11, 13, 17] x.i at_ row saw got now x.rows x.old true x.bump) 9 x.i =
      (if holF v ≠ -1 ∧ holF v ≠ x.th then 1 else if x.stamp < verF v then 2 else 0, PT.of x [9, 4, 16, 10, 11, 13, 17] x.i at_ row saw got now x.rows x.old true x.bump, s.loaded (x.stripeP (x.rs.getD x.i (0, 0)).1)) := by
    have hv' : s.vAt ((PT.of x [9, 4, 16, 10, 11, 13, 17] x.i at_ row saw got now x.rows x.old true x.bump).stripeP ((PT.of x [9, 4, 16, 10, 11, 13, 17] x.i at_ row saw got now x.rows x.old true x.bump).rs.getD x.i (0, 0)).1) = v := hv
    show (spoiltP _ (s.vAt ((PT.of x [9, 4, 16, 10, 11, 13, 17] x.i at_ row saw got now x.rows x.old true x.bump).stripeP ((PT.of x [9, 4, 16, 10, 11, 13, 17] x.i at_ row saw got now x.rows x.old true x.bump).rs.getD x.i (0, 0)).1)), _, _) = _
    rw [hv']
    rfl
  by_cases h1 : holF v ≠ -1 ∧ holF v ≠ x.th
  · rw [if_pos h1] at ea
    refine Like3.of2 ?_ (e0.trans (if_pos ⟨(holF_neg v).2 h1.1, h1.2⟩)) (RP.abort (x := x) [9, 4, 16, 10, 11, 13, 17] x.i at_ row saw got now x.rows x.bump (.inl rfl) sure 1)
    show stepsP s _ 9 = _
    rw [stepsP_bad ea (by decide), ph]
  · rw [if_neg h1] at ea
    have e0 := e0.trans (if_neg (fun h => h1 ⟨(holF_neg v).1 h.1, h.2⟩))
    by_cases h2 : x.stamp < verF v
    · rw [if_pos h2] at ea e0
      refine Like3.of2 ?_ e0 (RP.abort (x := x) [9, 4, 16, 10, 11, 13, 17] x.i at_ row saw got now x.rows x.bump (.inl rfl) sure 2)
      show stepsP s _ 9 = _
      rw [stepsP_bad ea (by decide), ph]
    · rw [if_neg h2] at ea e0
      by_cases hl : x.i + 1 < x.rs.length
      · rw [if_pos hl] at e0
        refine Like3.of ?_ e0 (RP.c4 (x := { x with i := x.i + 1 }) at_ row saw got now job st alive sure ph ws hl na)
        show stepsP s _ 9 = _
        rw [stepsP_ok ea]
        show ((goP [9, 4, 16, 10, 11, 13, 17] (PT.of x [9, 4, 16, 10, 11, 13, 17] (x.i + 1) at_ row saw got now x.rows x.old true x.bump)).1, (goP [9, 4, 16, 10, 11, 13, 17] (PT.of x [9, 4, 16, 10, 11, 13, 17] (x.i + 1) at_ row saw got now x.rows x.old true x.bump)).2, _) = _
        rw [go_check, if_pos ⟨na, hl⟩]
        rfl
      · rw [if_neg hl] at e0
        have h := RP.tell1 (x := { x with st := 5, i := 0 }) at_ row saw got now [4, 16, 10, 11, 13, 17] job rfl alive sure ph ws hr
        refine Like3.of0 ?_ e0 h
        show stepsP s _ 9 = _
        rw [stepsP_ok ea]
        show ((goP [9, 4, 16, 10, 11, 13, 17] (PT.of x [9, 4, 16, 10, 11, 13, 17] (x.i + 1) at_ row saw got now x.rows x.old true x.bump)).1, (goP [9, 4, 16, 10, 11, 13, 17] (PT.of x [9, 4, 16, 10, 11, 13, 17] (x.i + 1) at_ row saw got now x.rows x.old true x.bump)).2, _) = _
        rw [go_check, if_neg (fun hh => hl hh.2)]
        rfl
theorem st5_of (st : x.st = 5) : stCommit s x = if (watchF s x).1 = 2 then ((x.abort 3).1, (x.abort 3).2, (watchF s x).2.2) else (0, (watchF s x).2.1.tell, (watchF s x).2.2) := by
  unfold stCommit
  rw [if_neg (show ¬ x.st = 0 by rw [st]; decide), if_neg (show ¬ x.st = 1 by rw [st]; decide), if_neg (show ¬ x.st = 2 by rw [st]; decide), if_neg (show ¬ x.st = 3 by rw [st]; decide), if_neg (show ¬ x.st = 4 by rw [st]; decide), if_pos st]
theorem sim_c5 (parts : List Int) (at_ row saw got now : Int) (rows : List Int) (bump : BD) (job : x.job = 4) (st : x.st = 5) (sure : x.sure = false) (ph : x.phased = true) (hr : rows = x.rows ∨ x.old = [])
    (ht : (goP (4 :: parts) (PT.of { x with i := x.i + 1 } (4 :: parts) (x.i + 1) at_ row saw got now rows x.old true bump)).1 = 0 ∧ RP (goP (4 :: parts) (PT.of { x with i := x.i + 1 } (4 :: parts) (x.i + 1) at_ row saw got now rows x.old true bump)).2 ({ x with i := x.i + 1 } : TX).tell) :
    Like3 (pStep s (PT.of x (4 :: parts) x.i at_ row saw got now rows x.old true bump)) (txStep s x) := by
  rw [step_com4 job]
  have e0 := st5_of (s := s) st
  have ea : accP s (PT.of x (4 :: parts) x.i at_ row saw got now rows x.old true bump) 4 x.i = (if s.vAt (x.wt.getD x.i (0, 0)).1 ≠ (x.wt.getD x.i (0, 0)).2 then 3 else 0, PT.of x (4 :: parts) x.i at_ row saw got now rows x.old true bump, s.loaded (x.wt.getD x.i (0, 0)).1) := rfl
  by_cases hf : s.vAt (x.wt.getD x.i (0, 0)).1 ≠ (x.wt.getD x.i (0, 0)).2
  · rw [if_pos hf] at ea
    rw [watch_bad hf, if_pos rfl] at e0
    refine Like3.of2 ?_ e0 (RP.abort (x := x) (4 :: parts) x.i at_ row saw got now rows bump hr sure 3)
    show stepsP s _ 4 = _
    rw [stepsP_bad ea (by decide), ph]
  · rw [if_neg hf] at ea
    have hf' : s.vAt (x.wt.getD x.i (0, 0)).1 = (x.wt.getD x.i (0, 0)).2 := Decidable.not_not.1 hf
    rw [watch_fst hf', if_neg (by show ¬ (if x.i + 1 = x.wt.length then (1 : Int) else 0) = 2; split <;> decide)] at e0
    refine Like3.of0 ?_ e0 ht
    show stepsP s _ 4 = _
    rw [stepsP_ok ea]
    rfl
theorem sim_c6 (at_ row saw got now : Int) (old : List Int) (job : x.job = 4) (st : x.st = 6) (alive : x.alive = true) (sure : x.sure = true) (lt : x.i < x.ws.length) (hr : x.rows ≠ []) :
    Like3 (pStep s (PT.of x [10, 11, 13, 17] x.i at_ row saw got now x.rows old true x.bump)) (txStep s x) := by
  rw [step_com4 job]
  have e0 : stCommit s x = (0, if x.i + 1 = x.ws.length then { x with st := 7, i := 0 } else { x with i := x.i + 1 }, s.stored (x.ws.getD x.i (0, 0)).1 (x.ws.getD x.i (0, 0)).2) := by
    unfold stCommit
    rw [if_neg (show ¬ x.st = 0 by rw [st]; decide), if_neg (show ¬ x.st = 1 by rw [st]; decide), if_neg (show ¬ x.st = 2 by rw [st]; decide), if_neg (show ¬ x.st = 3 by rw [st]; decide), if_neg (show ¬ x.st = 4 by rw [st]; decide), if_neg (show ¬ x.st = 5 by rw [st]; decide), if_pos st]
  have ea : accP s (PT.of x [10, 11, 13, 17] x.i at_ row saw got now x.rows old true x.bump) 10 x.i = (0, PT.of x [10, 11, 13, 17] x.i at_ row saw got now x.rows old true x.bump, s.stored (x.ws.getD x.i (0, 0)).1 (x.ws.getD x.i (0, 0)).2) := rfl
  have hl : 0 < x.rows.length := List.length_pos_iff.2 hr
  by_cases hh : x.i + 1 = x.ws.length
  · rw [if_pos hh] at e0
    refine Like3.of ?_ e0 (RP.c7 (x := { x with st := 7, i := 0 }) at_ row saw got now old job rfl alive sure hl)
    show stepsP s _ 10 = _
    rw [stepsP_ok ea]
    show ((goP [10, 11, 13, 17] _).1, (goP [10, 11, 13, 17] _).2, _) = _
    rw [goP, if_neg (by show ¬ decide (x.i + 1 < x.ws.length) = true; rw [decide_eq_false (by omega)]; decide)]
    rw [goP, if_pos (by show decide (0 < x.rows.length) = true; exact decide_eq_true hl)]
    rfl
  · rw [if_neg hh] at e0
    refine Like3.of ?_ e0 (RP.c6 (x := { x with i := x.i + 1 }) at_ row saw got now old job st alive sure (by show x.i + 1 < x.ws.length; omega) hr)
    show stepsP s _ 10 = _
    rw [stepsP_ok ea]
    show ((goP [10, 11, 13, 17] _).1, (goP [10, 11, 13, 17] _).2, _) = _
    rw [goP, if_pos (by show decide (x.i + 1 < x.ws.length) = true; exact decide_eq_true (by omega))]
    rfl
theorem sim_c7 (at_ row saw got now : Int) (old : List Int) (job : x.job = 4) (st : x.st = 7) (alive : x.alive = true) (sure : x.sure = true) (lt : x.i < x.rows.length) :
    Like3 (pStep s (PT.of x [11, 13, 17] x.i at_ row saw got now x.rows old true x.bump)) (txStep s x) := by
  rw [step_com4 job]
  have e0 : stCommit s x = (0, if x.i + 1 = x.rows.length then { x with st := 8, i := x.i + 1 } else { x with i := x.i + 1 }, s.stored (x.stripeP (x.rows.getD x.i 0)) (freeF x.made)) := by
    unfold stCommit
    rw [if_neg (show ¬ x.st = 0 by rw [st]; decide), if_neg (show ¬ x.st = 1 by rw [st]; decide), if_neg (show ¬ x.st = 2 by rw [st]; decide), if_neg (show ¬ x.st = 3 by rw [st]; decide), if_neg (show ¬ x.st = 4 by rw [st]; decide), if_neg (show ¬ x.st = 5 by rw [st]; decide), if_neg (show ¬ x.st = 6 by rw [st]; decide), if_pos st]
  have ea : accP s (PT.of x [11, 13, 17] x.i at_ row saw got now x.rows old true x.bump) 11 x.i = (0, PT.of x [11, 13, 17] x.i at_ row saw got now x.rows old true x.bump, s.stored (x.stripeP (x.rows.getD x.i 0)) (freeF x.made)) := rfl
  by_cases hh : x.i + 1 = x.rows.length
  · rw [if_pos hh] at e0
    refine Like3.of ?_ e0 (RP.c8 (x := { x with st := 8, i := x.i + 1 }) at_ row saw got now x.rows old x.bump job rfl alive sure)
    show stepsP s _ 11 = _
    rw [stepsP_ok ea]
    show ((goP [11, 13, 17] _).1, (goP [11, 13, 17] _).2, _) = _
    rw [goP, if_neg (by show ¬ decide (x.i + 1 < x.rows.length) = true; rw [decide_eq_false (by omega)]; decide)]
    rfl
  · rw [if_neg hh] at e0
    refine Like3.of ?_ e0 (RP.c7 (x := { x with i := x.i + 1 }) at_ row saw got now old job st alive sure (by show x.i + 1 < x.rows.length; omega))
    show stepsP s _ 11 = _
    rw [stepsP_ok ea]
    show ((goP [11, 13, 17] _).1, (goP [11, 13, 17] _).2, _) = _
    rw [goP, if_pos (by show decide (x.i + 1 < x.rows.length) = true; exact decide_eq_true (by omega))]
    rfl
theorem sim_c8 (at_ row saw got now : Int) (rows old : List Int) (bump : BD) (job : x.job = 4) (st : x.st = 8) (alive : x.alive = true) (sure : x.sure = true) :
    Like3 (pStep s (PT.of x [13, 17] 0 at_ row saw got now rows old true bump)) (txStep s x) := by
  rw [step_com4 job]
  have e0 : stCommit s x = (1, { x with stamp := if x.ws = [] then x.stamp else x.made, alive := false, job := 0 }, s.stored x.phaseP 0) := by
    unfold stCommit
    rw [if_neg (show ¬ x.st = 0 by rw [st]; decide), if_neg (show ¬ x.st = 1 by rw [st]; decide), if_neg (show ¬ x.st = 2 by rw [st]; decide), if_neg (show ¬ x.st = 3 by rw [st]; decide), if_neg (show ¬ x.st = 4 by rw [st]; decide), if_neg (show ¬ x.st = 5 by rw [st]; decide), if_neg (show ¬ x.st = 6 by rw [st]; decide), if_neg (show ¬ x.st = 7 by rw [st]; decide)]
  refine Like3.of ?_ e0 (RP.idle (x := { x with stamp := if x.ws = [] then x.stamp else x.made, alive := false, job := 0 }) 0 at_ row saw got now rows old bump rfl (fun h => by cases h))
  show stepsP s _ 13 = _
  rw [stepsP_ok (q := PT.of x [13, 17] 0 at_ row saw got now rows old false bump) (s' := s.stored x.phaseP 0) rfl]
  show ((goP [13, 17] _).1, (goP [13, 17] _).2, _) = _
  simp [goP, leftP, passP, endP, PT.of, sure]
theorem sim_u1 (at_ row saw got now : Int) (bump : BD) (job : x.job = 5) (alive : x.alive = false) (sure : x.sure = false) (lt : x.i < x.old.length) :
    Like3 (pStep s (PT.of x [12, 13] x.i at_ row saw got now x.rows x.old x.phased bump)) (txStep s x) := by
  rw [step_und job]
  have e0 : stUndo s x = (if x.i + 1 < x.old.length ∨ x.phased = true then 0 else 2, { x with i := x.i + 1, job := if x.i + 1 < x.old.length ∨ x.phased = true then 5 else 0 }, s.stored (x.stripeP (x.rows.getD x.i 0)) (x.old.getD x.i 0)) := if_pos lt
  have ea : accP s (PT.of x [12, 13] x.i at_ row saw got now x.rows x.old x.phased bump) 12 x.i = (0, PT.of x [12, 13] x.i at_ row saw got now x.rows x.old x.phased bump, s.stored (x.stripeP (x.rows.getD x.i 0)) (x.old.getD x.i 0)) := rfl
  by_cases hl : x.i + 1 < x.old.length
  · rw [if_pos (.inl hl), if_pos (.inl hl)] at e0
    refine Like3.of ?_ e0 (RP.u1 (x := { x with i := x.i + 1, job := 5 }) at_ row saw got now bump rfl alive sure hl)
    show stepsP s _ 12 = _
    rw [stepsP_ok ea]
    show ((goP [12, 13] _).1, (goP [12, 13] _).2, _) = _
    rw [goP, if_pos (by show decide (x.i + 1 < x.old.length) = true; exact decide_eq_true hl)]
    rfl
  · cases hp : x.phased with
    | true =>
      rw [if_pos (.inr hp), if_pos (.inr hp)] at e0
      refine Like3.of ?_ e0 (RP.u2 (x := { x with i := x.i + 1, job := 5 }) at_ row saw got now x.rows x.old bump rfl alive sure hp hl)
      rw [hp] at ea
      show stepsP s _ 12 = _
      rw [stepsP_ok ea]
      show ((goP [12, 13] _).1, (goP [12, 13] _).2, _) = _
      rw [goP, if_neg (by show ¬ decide (x.i + 1 < x.old.length) = true; rw [decide_eq_false hl]; decide)]
      rfl
    | false =>
      rw [if_neg (fun h => h.elim hl (fun h => by rw [hp] at h; cases h)), if_neg (fun h => h.elim hl (fun h => by rw [hp] at h; cases h))] at e0
      refine Like3.of ?_ e0 (RP.idle (x := { x with i := x.i + 1, job := 0 }) 0 at_ row saw got now x.rows x.old bump rfl (fun h => by rw [show ({ x with i := x.i + 1, job := 0 } : TX).alive = false from alive] at h; cases h))
      rw [hp] at ea
      show stepsP s _ 12 = _
      rw [stepsP_ok ea]
      show ((goP [12, 13] _).1, (goP [12, 13] _).2, _) = _
      rw [goP, if_neg (by show ¬ decide (x.i + 1 < x.old.length) = true; rw [decide_eq_false hl]; decide)]
      simp [goP, leftP, passP, endP, PT.of, alive, sure]
theorem sim_u2 (at_ row saw got now : Int) (rows old : List Int) (bump : BD) (job : x.job = 5) (alive : x.alive = false) (sure : x.sure = false) (ph : x.phased = true) (ge : ¬ x.i < x.old.length) :
    Like3 (pStep s (PT.of x [13] 0 at_ row saw got now rows old true bump)) (txStep s x) := by
  rw [step_und job]
  have e0 : stUndo s x = (2, { x with phased := false, job := 0 }, s.stored x.phaseP 0) := if_neg ge
  refine Like3.of ?_ e0 (RP.idle (x := { x with phased := false, job := 0 }) 0 at_ row saw got now rows old bump rfl (fun h => by rw [show ({ x with phased := false, job := 0 } : TX).alive = false from alive] at h; cases h))
  show stepsP s _ 13 = _
  rw [stepsP_ok (q := PT.of x [13] 0 at_ row saw got now rows old false bump) (s' := s.stored x.phaseP 0) rfl]
  show ((goP [13] _).1, (goP [13] _).2, _) = _
  simp [goP, leftP, passP, endP, PT.of, alive, sure]

/-- What a step asks of the words and of the attempt. -/
structure StepOk (s : MS) (x : TX) : Prop where
  mok : x.m.Ok
  i64 : x.job = 4 → x.st = 1 → I64 (s.vAt (x.stripeP (x.rows.getD x.i 0)))
  new : x.job = 4 → x.st = 0 → x.ws ≠ [] → rowsL x.m (x.ws.map fun p => p.1) x.m.s.toNat ≠ []
  rows : x.job = 4 → x.ws ≠ [] → x.st = 3 ∨ x.st = 4 ∨ x.st = 5 → x.rows ≠ []
/-- **Any access is the same on both.** -/
theorem RP.step {p : PT} (h : RP p x) (hj : x.job ≠ 0) (ok : StepOk s x) : Like3 (pStep s p) (txStep s x) := by
  cases h with
  | idle dn at_ row saw got now rows old bump job => exact absurd job hj
  | beg at_ row saw got now rows bump job alive sure old ph => exact sim_beg at_ row saw got now rows bump job alive sure old ph
  | rd0 saw got now rows bump job st alive sure old ph xi => exact sim_rd0 saw got now rows bump job st alive sure old ph xi
  | rd1 got now rows bump job st alive sure old ph xi => exact sim_rd1 got now rows bump job st alive sure old ph xi
  | rd2 now rows bump job st alive sure old ph xi => exact sim_rd2 now rows bump job st alive sure old ph xi
  | rd3 saw now rows bump job st alive sure old ph lt => exact sim_rd3 saw now rows bump job st alive sure old ph lt
  | c0 at_ row saw got now rows bump job st alive sure old ph ws => exact sim_c0 at_ row saw got now rows bump job st alive sure old ph ws
  | c0w at_ row saw got now job st alive sure old ph ws => exact sim_c0w at_ row saw got now job st alive sure old ph ws ok.mok (ok.new job st ws)
  | c1 at_ row saw got now job st alive sure ph ws xi lt => exact sim_c1 at_ row saw got now job st alive sure ph ws xi lt (ok.i64 job st)
  | c2 at_ row got now job st alive sure ph ws xi lt i64 => exact sim_c2 at_ row got now job st alive sure ph ws xi lt
  | c3 dn at_ row saw got now job st alive sure ph ws b9 => exact sim_c3 dn at_ row saw got now job st alive sure ph ws (ok.rows job ws (.inl st))
  | c4 at_ row saw got now job st alive sure ph ws lt na => exact sim_c4 at_ row saw got now job st alive sure ph ws lt na (ok.rows job ws (.inr (.inl st)))
  | c5 at_ row saw got now rows bump job st alive sure ph lt ws hr =>
    exact sim_c5 [16, 13, 17] at_ row saw got now rows bump job st sure ph hr (RP.tell0 (x := { x with i := x.i + 1 }) at_ row saw got now rows bump [4, 16, 13, 17] job st alive sure ph ws hr)
  | c5w at_ row saw got now job st alive sure ph lt ws =>
    exact sim_c5 [16, 10, 11, 13, 17] at_ row saw got now x.rows x.bump job st sure ph (.inl rfl) (RP.tell1 (x := { x with i := x.i + 1 }) at_ row saw got now [4, 16, 10, 11, 13, 17] job st alive sure ph ws (ok.rows job ws (.inr (.inr st))))
  | c6 at_ row saw got now old job st alive sure lt hr => exact sim_c6 at_ row saw got now old job st alive sure lt hr
  | c7 at_ row saw got now old job st alive sure lt => exact sim_c7 at_ row saw got now old job st alive sure lt
  | c8 at_ row saw got now rows old bump job st alive sure => exact sim_c8 at_ row saw got now rows old bump job st alive sure
  | u1 at_ row saw got now bump job alive sure lt => exact sim_u1 at_ row saw got now bump job alive sure lt
  | u2 at_ row saw got now rows old bump job alive sure ph ge => exact sim_u2 at_ row saw got now rows old bump job alive sure ph ge

end Go.Proofs.Ytjfinnjmcnjciaa

namespace Go.Proofs.Ytjfinnjmcnjciaa
open Go.RowKit

variable {x : TX}
theorem RP.free {p : PT} (h : RP p x) (hj : x.job = 0) : ∃ dn at_ row saw got now rows old bump, p = PT.of x [] dn at_ row saw got now rows old false bump ∧ (x.alive = true → x.old = [] ∧ x.phased = false ∧ old = [] ∧ x.sure = false) := by
  cases h with
  | idle dn at_ row saw got now rows old bump job free => exact ⟨dn, at_, row, saw, got, now, rows, old, bump, rfl, free⟩
  | beg at_ row saw got now rows bump job => rw [hj] at job; cases job
  | rd0 saw got now rows bump job => rw [hj] at job; cases job
  | rd1 got now rows bump job => rw [hj] at job; cases job
  | rd2 now rows bump job => rw [hj] at job; cases job
  | rd3 saw now rows bump job => rw [hj] at job; cases job
  | c0 at_ row saw got now rows bump job => rw [hj] at job; cases job
  | c0w at_ row saw got now job => rw [hj] at job; cases job
  | c1 at_ row saw got now job => rw [hj] at job; cases job
  | c2 at_ row got now job => rw [hj] at job; cases job
  | c3 dn at_ row saw got now job => rw [hj] at job; cases job
  | c4 at_ row saw got now job => rw [hj] at job; cases job
  | c5 at_ row saw got now rows bump job => rw [hj] at job; cases job
  | c5w at_ row saw got now job => rw [hj] at job; cases job
  | c6 at_ row saw got now old job => rw [hj] at job; cases job
  | c7 at_ row saw got now old job => rw [hj] at job; cases job
  | c8 at_ row saw got now rows old bump job => rw [hj] at job; cases job
  | u1 at_ row saw got now bump job => rw [hj] at job; cases job
  | u2 at_ row saw got now rows old bump job => rw [hj] at job; cases job
def Like2 (a : Int × PT) (c : Int × TX) : Prop := a.1 = c.1 ∧ RP a.2 c.2
theorem Like2.of {a : Int × PT} {c : Int × TX} {k : Int} {p : PT} {x : TX} (h1 : a = (k, p)) (h2 : c = (k, x)) (h : RP p x) : Like2 a c := by subst h1 h2; exact ⟨rfl, h⟩
theorem RP.new (m : PM) (th ck : Int) (mr mw : Nat) (top : Int) : RP (PT.new m th ck mr mw top) (TX.new m th ck mr mw top) := RP.idle (x := TX.new m th ck mr mw top) 0 0 0 0 0 0 [] [] b0 rfl (fun h => by cases h)
theorem RP.begin {p : PT} (h : RP p x) (hj : x.job = 0) : Like2 (pBegin p) (txBegin x) := by
  obtain ⟨dn, at_, row, saw, got, now, rows, old, bump, rfl, free⟩ := h.free hj
  cases ha : x.alive with
  | true =>
    refine Like2.of (k := 2) (x := x) (p := PT.of x [] dn at_ row saw got now rows old false bump) (if_pos (.inl ha)) (if_pos (.inl ha)) (.idle _ _ _ _ _ _ _ _ _ hj free)
  | false =>
    refine Like2.of ?_ (if_neg (fun h => h.elim (fun h => by rw [ha] at h; cases h) (fun h => h hj))) (RP.beg (x := { x with rs := [], ws := [], asked := 0, wt := [], rows := [], old := [], alive := true, sure := false, phased := false, cause := 0, made := 0, val := 0, job := 1, st := 0, i := 0 }) at_ row saw got now [] bump rfl rfl rfl rfl rfl)
    refine (if_neg (fun h => h.elim (fun h => by rw [show (PT.of x [] dn at_ row saw got now rows old false bump).alive = false from ha] at h; cases h) (fun h => h rfl))).trans ?_
    rfl
theorem RP.watch {p : PT} (h : RP p x) (hj : x.job = 0) (a v : Int) : RP (pWatch p a v) (txWatch x a v) := by
  obtain ⟨dn, at_, row, saw, got, now, rows, old, bump, rfl, free⟩ := h.free hj
  cases ha : x.alive with
  | true =>
    rw [show txWatch x a v = { x with wt := x.wt ++ [(a, v)] } from if_pos ha, show pWatch (PT.of x [] dn at_ row saw got now rows old false bump) a v = PT.of { x with wt := x.wt ++ [(a, v)] } [] dn at_ row saw got now rows old false bump from if_pos ha]
    exact .idle _ _ _ _ _ _ _ _ _ hj free
  | false =>
    rw [show txWatch x a v = x from if_neg (by rw [ha]; decide), show pWatch (PT.of x [] dn at_ row saw got now rows old false bump) a v = PT.of x [] dn at_ row saw got now rows old false bump from if_neg (by rw [show (PT.of x [] dn at_ row saw got now rows old false bump).alive = false from ha]; decide)]
    exact .idle _ _ _ _ _ _ _ _ _ hj free
/-- An abort of one that has nothing under way. -/
theorem RP.abort0 {dn : Nat} {at_ row saw got now : Int} {rows : List Int} {bump : BD} (hp : x.phased = false) (ho : x.old = []) (sure : x.sure = false) (c : Int) : Like2 (abortP (PT.of x [] dn at_ row saw got now rows [] false bump) c) (x.abort c) := by
  have := RP.abort (x := x) [] dn at_ row saw got now rows bump (.inr ho) sure c
  rw [ho, hp] at this
  exact this
theorem hashP_in {m : PM} (hm : m.Ok) {a : Int} (h : 0 ≤ a ∧ a < m.size) : 0 ≤ m.hash a := by
  unfold PM.hash; rw [if_pos ⟨hm, h.1, h.2⟩]; omega
theorem RP.read {p : PT} (h : RP p x) (hj : x.job = 0) (hm : x.m.Ok) {a : Int} (hin : 0 ≤ a ∧ a < x.m.size) : Like2 (pRead p a) (txRead x a) := by
  obtain ⟨dn, at_, row, saw, got, now, rows, old, bump, rfl, free⟩ := h.free hj
  cases ha : x.alive with
  | false =>
    exact Like2.of (if_neg (fun h => by have := h.1; rw [show (PT.of x [] dn at_ row saw got now rows old false bump).alive = false from ha] at this; cases this)) (if_neg (fun h => by rw [ha] at h; cases h.1)) (.idle _ _ _ _ _ _ _ _ _ hj (fun h => by rw [ha] at h; cases h))
  | true =>
    obtain ⟨f1, f2, rfl, f4⟩ := free ha
    have e1 : txRead x a = if hasL x.ws a = true then (1, { x with st := 0, i := 0, asked := (if mayL x.ws a = true then x.asked + 1 else x.asked), val := valL x.ws a, job := 0 })
      else if roomL x.mr x.rs (x.m.hash a) = true then (0, { x with job := 2, st := 0, i := 0, asked := (if mayL x.ws a = true then x.asked + 1 else x.asked), at_ := a })
      else ({ x with job := 2, st := 0, i := 0, asked := (if mayL x.ws a = true then x.asked + 1 else x.asked) } : TX).abort 4 := (if_pos ⟨ha, hj⟩).trans (if_pos hin)
    have e2 : pRead (PT.of x [] dn at_ row saw got now rows [] false bump) a = if hasL x.ws a = true then (1, PT.of { x with asked := (if mayL x.ws a = true then x.asked + 1 else x.asked), val := valL x.ws a } [] dn at_ row saw got now rows [] false bump)
      else if x.m.hash a < 0 ∨ roomL x.mr x.rs (x.m.hash a) = false then abortP (PT.of { x with asked := (if mayL x.ws a = true then x.asked + 1 else x.asked) } [] dn at_ row saw got now rows [] false bump) 4
      else askP (PT.of { x with asked := (if mayL x.ws a = true then x.asked + 1 else x.asked) } [] dn a (x.m.hash a) saw got now rows [] false bump) [1, 2, 3, 4, 14] := if_pos ⟨ha, rfl⟩
    rw [e1, e2]
    have h0 : ¬ x.m.hash a < 0 := by have := hashP_in hm hin; omega
    by_cases hh : hasL x.ws a = true
    · rw [if_pos hh, if_pos hh]
      exact ⟨rfl, RP.idle (x := { x with st := 0, i := 0, asked := (if mayL x.ws a = true then x.asked + 1 else x.asked), val := valL x.ws a, job := 0 }) _ _ _ _ _ _ _ _ _ rfl (fun _ => ⟨f1, f2, rfl, f4⟩)⟩
    · rw [if_neg hh, if_neg hh]
      cases hr : roomL x.mr x.rs (x.m.hash a) with
      | true =>
        rw [if_pos (show true = true from rfl), if_neg (show ¬ (x.m.hash a < 0 ∨ true = false) from fun h => h.elim h0 (fun h => by cases h))]
        exact ⟨rfl, RP.rd0 (x := { x with job := 2, st := 0, i := 0, asked := (if mayL x.ws a = true then x.asked + 1 else x.asked), at_ := a }) saw got now rows bump rfl rfl ha f4 f1 f2 rfl⟩
      | false =>
        rw [if_pos (show x.m.hash a < 0 ∨ false = false from .inr rfl), if_neg (show ¬ (false = true) from Bool.false_ne_true)]
        exact RP.abort0 (x := { x with job := 2, st := 0, i := 0, asked := (if mayL x.ws a = true then x.asked + 1 else x.asked) }) f2 f1 f4 4
theorem RP.write {p : PT} (h : RP p x) (hj : x.job = 0) (hm : x.m.Ok) {a : Int} (hin : 0 ≤ a ∧ a < x.m.size) (v : Int) (hw : x.alive = true → wputB x.mw x.ws a = true) : Like2 (pWrite p a v) (txWrite x a v) := by
  obtain ⟨dn, at_, row, saw, got, now, rows, old, bump, rfl, free⟩ := h.free hj
  cases ha : x.alive with
  | false =>
    exact Like2.of (if_neg (fun h => by have := h.1; rw [show (PT.of x [] dn at_ row saw got now rows old false bump).alive = false from ha] at this; cases this)) (if_neg (fun h => by rw [ha] at h; cases h.1)) (.idle _ _ _ _ _ _ _ _ _ hj (fun h => by rw [ha] at h; cases h))
  | true =>
    obtain ⟨f1, f2, rfl, f4⟩ := free ha
    have h0 : ¬ x.m.hash a < 0 := by have := hashP_in hm hin; omega
    refine Like2.of ((if_pos ⟨ha, rfl⟩).trans ((if_neg h0).trans (if_pos (hw ha)))) ((if_pos ⟨ha, hj⟩).trans (if_pos ⟨hin.1, hin.2, hw ha⟩)) (RP.idle (x := { x with ws := wputL x.mw x.ws a v }) dn at_ row saw got now rows [] bump hj (fun _ => ⟨f1, f2, rfl, f4⟩))
theorem RP.commit {p : PT} (h : RP p x) (hj : x.job = 0) : Like2 (pCommit p) (txCommit x) := by
  obtain ⟨dn, at_, row, saw, got, now, rows, old, bump, rfl, free⟩ := h.free hj
  cases ha : x.alive with
  | false =>
    exact Like2.of (if_neg (fun h => by have := h.1; rw [show (PT.of x [] dn at_ row saw got now rows old false bump).alive = false from ha] at this; cases this)) (if_neg (fun h => by rw [ha] at h; cases h.1)) (.idle _ _ _ _ _ _ _ _ _ hj (fun h => by rw [ha] at h; cases h))
  | true =>
    obtain ⟨f1, f2, rfl, f4⟩ := free ha
    by_cases hw : x.ws = []
    · exact Like2.of ((if_pos ⟨ha, rfl⟩).trans ((if_pos hw).trans rfl)) (if_pos ⟨ha, hj⟩) (RP.c0 (x := { x with job := 4, st := 0, i := 0 }) at_ row saw got now rows bump rfl rfl ha f4 f1 f2 hw)
    · exact Like2.of ((if_pos ⟨ha, rfl⟩).trans ((if_neg hw).trans rfl)) (if_pos ⟨ha, hj⟩) (RP.c0w (x := { x with job := 4, st := 0, i := 0 }) at_ row saw got now rfl rfl ha f4 f1 f2 hw)
/-- A kill, wherever it stands. -/
theorem RP.kill {p : PT} (h : RP p x) (c : Int) : Like2 (pKill p c) (txKill x c) := by
  have hab : ∀ (parts : List Int) (dn : Nat) (at_ row saw got now : Int) (rows old : List Int) (ph : Bool) (bump : BD), x.alive = true → x.sure = false → (rows = x.rows ∨ x.old = []) → old = x.old → ph = x.phased → Like2 (pKill (PT.of x parts dn at_ row saw got now rows old ph bump) c) (txKill x c) := by
    rintro parts dn at_ row saw got now rows old ph bump ha hs hr rfl rfl
    have := RP.abort (x := x) parts dn at_ row saw got now rows bump hr hs c
    rw [show txKill x c = x.abort c from if_pos ⟨ha, hs⟩, show pKill (PT.of x parts dn at_ row saw got now rows x.old x.phased bump) c = abortP (PT.of x parts dn at_ row saw got now rows x.old x.phased bump) c from if_pos ⟨ha, hs⟩]
    exact this
  have hno : ∀ p, RP p x → p.alive = x.alive → p.sure = x.sure → ¬ (x.alive = true ∧ x.sure = false) → Like2 (pKill p c) (txKill x c) := by
    intro p h h1 h2 hn
    exact Like2.of (if_neg (by rw [h1, h2]; exact hn)) (if_neg hn) h
  cases h with
  | idle dn at_ row saw got now rows old bump job free =>
    by_cases hk : x.alive = true
    · obtain ⟨f1, f2, f3, f4⟩ := free hk
      exact hab _ _ _ _ _ _ _ _ _ _ _ hk f4 (.inr f1) (f3.trans f1.symm) f2.symm
    · exact hno _ (.idle dn at_ row saw got now rows old bump job free) rfl rfl (fun h => hk h.1)
  | beg at_ row saw got now rows bump job alive sure old ph => exact hab _ _ _ _ _ _ _ _ _ _ _ alive sure (.inr old) old.symm ph.symm
  | rd0 saw got now rows bump job st alive sure old ph xi => exact hab _ _ _ _ _ _ _ _ _ _ _ alive sure (.inr old) old.symm ph.symm
  | rd1 got now rows bump job st alive sure old ph xi => exact hab _ _ _ _ _ _ _ _ _ _ _ alive sure (.inr old) old.symm ph.symm
  | rd2 now rows bump job st alive sure old ph xi => exact hab _ _ _ _ _ _ _ _ _ _ _ alive sure (.inr old) old.symm ph.symm
  | rd3 saw now rows bump job st alive sure old ph lt => exact hab _ _ _ _ _ _ _ _ _ _ _ alive sure (.inr old) old.symm ph.symm
  | c0 at_ row saw got now rows bump job st alive sure old ph ws => exact hab _ _ _ _ _ _ _ _ _ _ _ alive sure (.inr old) old.symm ph.symm
  | c0w at_ row saw got now job st alive sure old ph ws => exact hab _ _ _ _ _ _ _ _ _ _ _ alive sure (.inr old) old.symm ph.symm
  | c1 at_ row saw got now job st alive sure ph ws xi lt => exact hab _ _ _ _ _ _ _ _ _ _ _ alive sure (.inl rfl) rfl ph.symm
  | c2 at_ row got now job st alive sure ph ws xi lt i64 => exact hab _ _ _ _ _ _ _ _ _ _ _ alive sure (.inl rfl) rfl ph.symm
  | c3 dn at_ row saw got now job st alive sure ph ws b9 => exact hab _ _ _ _ _ _ _ _ _ _ _ alive sure (.inl rfl) rfl ph.symm
  | c4 at_ row saw got now job st alive sure ph ws lt na => exact hab _ _ _ _ _ _ _ _ _ _ _ alive sure (.inl rfl) rfl ph.symm
  | c5 at_ row saw got now rows bump job st alive sure ph lt ws hr => exact hab _ _ _ _ _ _ _ _ _ _ _ alive sure hr rfl ph.symm
  | c5w at_ row saw got now job st alive sure ph lt ws => exact hab _ _ _ _ _ _ _ _ _ _ _ alive sure (.inl rfl) rfl ph.symm
  | c6 at_ row saw got now old job st alive sure lt hr => exact hno _ (.c6 at_ row saw got now old job st alive sure lt hr) rfl rfl (fun h => by rw [sure] at h; cases h.2)
  | c7 at_ row saw got now old job st alive sure lt => exact hno _ (.c7 at_ row saw got now old job st alive sure lt) rfl rfl (fun h => by rw [sure] at h; cases h.2)
  | c8 at_ row saw got now rows old bump job st alive sure => exact hno _ (.c8 at_ row saw got now rows old bump job st alive sure) rfl rfl (fun h => by rw [sure] at h; cases h.2)
  | u1 at_ row saw got now bump job alive sure lt => exact hno _ (.u1 at_ row saw got now bump job alive sure lt) rfl rfl (fun h => by rw [alive] at h; cases h.1)
  | u2 at_ row saw got now rows old bump job alive sure ph ge => exact hno _ (.u2 at_ row saw got now rows old bump job alive sure ph ge) rfl rfl (fun h => by rw [alive] at h; cases h.1)
/-- What both have alike. -/
theorem RP.same {p : PT} (h : RP p x) : p.m = x.m ∧ p.th = x.th ∧ p.ck = x.ck ∧ p.mr = x.mr ∧ p.mw = x.mw ∧ p.rs = x.rs ∧ p.ws = x.ws ∧ p.asked = x.asked ∧ p.wt = x.wt ∧ p.alive = x.alive ∧ p.sure = x.sure ∧ p.cause = x.cause ∧ p.stamp = x.stamp ∧ p.made = x.made ∧ p.val = x.val := by
  cases h <;> exact ⟨rfl, rfl, rfl, rfl, rfl, rfl, rfl, rfl, rfl, rfl, rfl, rfl, rfl, rfl, rfl⟩

end Go.Proofs.Ytjfinnjmcnjciaa
