/-
  Attempts by their plans: the ways in which one may stand. One pick of an attempt that reads: all stands as it may. One pick of an attempt that commits or is undone: steps in plain words, what words turn. One pick of an attempt that commits or is undone: all stands as it may. One pick of an attempt that commits or is undone, the rest. One pick of an attempt that commits or is undone, the rest. Any pick of any attempt: all stands as it may; it ends. An attempt begins; each of its picks brings it nearer to its end. Each pick of an attempt brings it nearer to its end.
-/
import Derived.Test.YtjfinnjmcnjciaaTlR
namespace Go.Proofs.Ytjfinnjmcnjciaa
open Go.RowKit

structure TB (ck : Int) (t : Nat) (u : RU) : Prop where
  m : u.x.m = mT
  th : u.x.th = (t : Int)
  ckk : u.x.ck = ck
  top : u.x.top = 1000
  mr : u.x.mr = 32
  mw : u.x.mw = 32
  wt : u.x.wt = []
  plan : PlanOk u.plan
  rd : RdOk u.plan u.read
  rs : RsOk u.x.rs u.read
  fin : u.fin = 0
  sp : 0 ≤ u.x.stamp
/-- What was there when its stripes were taken, from the i-th on. -/
def OldFrom (ver : Nat → Int) (rows old : List Int) (i : Nat) : Prop := ∀ j k : Nat, i ≤ j → j < old.length → rows[j]? = some (k : Int) → old[j]? = some (ver k * 16)
/-- What it is about to write. -/
inductive WOk (u : RU) : List (Nat × Int) → Prop
  | mk (f g : Nat) (k vf vg : Int) (hf : f < 4) (hg : g < 4) (hfg : f ≠ g) (hp : u.plan = PW f g k) (hr : u.read = [(f, vf), (g, vg)])
    (hw : u.x.ws = [(dataP f, wrap64 (vf + -k)), (dataP g, wrap64 (vg + k))]) (h1 : (sgm f : Int) ∈ u.x.rows) (h2 : (sgm g : Int) ∈ u.x.rows) :
    WOk u [(f, wrap64 (vf + -k)), (g, wrap64 (vg + k))]
def rdT (S : Int) (R : List (Nat × Int)) (mid : Option (Nat × Int)) (got : Option Int) : AT := ⟨true, S, R, mid, got, fun _ => false, none, none, false, []⟩
def comT (S : Int) (R : List (Nat × Int)) (held : Nat → Bool) (q M : Option Int) : AT := ⟨true, S, R, none, none, held, q, M, false, []⟩
def decT (S : Int) (R : List (Nat × Int)) (held : Nat → Bool) (q M : Option Int) (pend : List (Nat × Int)) : AT := ⟨false, S, R, none, none, held, q, M, true, pend⟩
/-- It commits, and holds the first of its rows. -/
structure CB (ck : Int) (t : Nat) (ver : Nat → Int) (u : RU) (W : List (Nat × Int)) : Prop where
  tb : TB ck t u
  busy : u.busy = true
  alive : u.x.alive = true
  phased : u.x.phased = true
  job : u.x.job = 4
  i : u.i = 5
  w : WOk u W
  rows : RowsOk u.x.rows

/-- Where all four were read, they were forty together. -/
def SumOk (u : RU) : Prop := u.plan = PR → u.read.length = 4 → ∃ a b c d : Int, u.read = [(0, a), (1, b), (2, c), (3, d)] ∧ (a + b + c + d) % 18446744073709551616 = 40
theorem WOk.sum {u : RU} {W : List (Nat × Int)} (h : WOk u W) : SumOk u := fun hp _ => by
  cases h with
  | mk f g k vf vg hf hg hfg hpl hr hw h1 h2 =>
    rw [hpl] at hp
    simp [PW, PR] at hp
inductive RunAt (ck : Int) (t : Nat) (c : Int) (ver : Nat → Int) (u : RU) : AT → Prop
  | over (h : u.fin ≠ 0) (so : SumOk u) : RunAt ck t c ver u idleT
  | btw (tb : TB ck t u) (busy : u.busy = false) (alive : u.x.alive = true) (sure : u.x.sure = false) (phased : u.x.phased = false) (job : u.x.job = 0) (ws : u.x.ws = []) (old : u.x.old = []) (i : u.i = u.read.length + 1) :
      RunAt ck t c ver u (rdT u.x.stamp u.read none none)
  | rd1 (d : Nat) (pv : Int) (tb : TB ck t u) (busy : u.busy = true) (alive : u.x.alive = true) (sure : u.x.sure = false) (phased : u.x.phased = false) (job : u.x.job = 2) (ws : u.x.ws = []) (old : u.x.old = []) (i : u.i = u.read.length + 1)
      (lt : u.read.length < nrd u.plan) (hd : d < 4) (at_ : (u.plan : List (Bool × Nat × Int))[u.read.length]? = some (false, d, 0)) (hat : u.x.at_ = dataP d) (xi : u.x.i = 0) (pre : u.x.pre = pv * 16) (st : u.x.st = 1) :
      RunAt ck t c ver u (rdT u.x.stamp u.read (some (d, pv)) none)
  | rd2 (d : Nat) (pv : Int) (tb : TB ck t u) (busy : u.busy = true) (alive : u.x.alive = true) (sure : u.x.sure = false) (phased : u.x.phased = false) (job : u.x.job = 2) (ws : u.x.ws = []) (old : u.x.old = []) (i : u.i = u.read.length + 1)
      (lt : u.read.length < nrd u.plan) (hd : d < 4) (at_ : (u.plan : List (Bool × Nat × Int))[u.read.length]? = some (false, d, 0)) (hat : u.x.at_ = dataP d) (xi : u.x.i = 0) (pre : u.x.pre = pv * 16) (st : u.x.st = 2) :
      RunAt ck t c ver u (rdT u.x.stamp u.read (some (d, pv)) (some u.x.got))
  | lk (W : List (Nat × Int)) (cb : CB ck t ver u W) (sure : u.x.sure = false) (xi : u.x.i = u.x.old.length) (lt : u.x.old.length < u.x.rows.length) (old : OldFrom ver u.x.rows u.x.old 0) (st : u.x.st = 1 ∨ u.x.st = 2 ∧ u.x.pre % 16 = 0) :
      RunAt ck t c ver u (comT u.x.stamp u.read (heldL (u.x.rows.take u.x.old.length)) none none)
  | bp (W : List (Nat × Int)) (q : Option Int) (cb : CB ck t ver u W) (sure : u.x.sure = false) (full : u.x.old.length = u.x.rows.length) (old : OldFrom ver u.x.rows u.x.old 0) (st : u.x.st = 3)
      (bump : q = none ∧ (ck = 1 ∧ u.x.bump = ⟨1, 0, 0, 0⟩ ∨ ck = 2 ∧ u.x.bump = ⟨2, 0, 0, 0⟩) ∨ ∃ seen, seen ≤ c ∧ q = some (seen + 1) ∧ u.x.bump = ⟨2, 1, seen, 0⟩) :
      RunAt ck t c ver u (comT u.x.stamp u.read (heldL u.x.rows) q none)
  | ckd (W : List (Nat × Int)) (q : Option Int) (cb : CB ck t ver u W) (sure : u.x.sure = false) (full : u.x.old.length = u.x.rows.length) (old : OldFrom ver u.x.rows u.x.old 0) (st : u.x.st = 4) (lt : u.x.i < u.x.rs.length) (top : u.x.made ≤ 1000)
      (val : ∀ (j k : Nat) (v : Int), j < u.x.i → u.x.rs[j]? = some ((k : Int), v) → heldL u.x.rows k = true → ver k ≤ u.x.stamp) :
      RunAt ck t c ver u (comT u.x.stamp u.read (heldL u.x.rows) q (some u.x.made))
  | wr (W : List (Nat × Int)) (q : Option Int) (S : Int) (cb : CB ck t ver u W) (st : u.x.st = 6) (lt : u.x.i < 2) (top : u.x.made ≤ 1000) (ne : u.x.rows ≠ []) :
      RunAt ck t c ver u (decT S u.read (heldL u.x.rows) q (some u.x.made) (W.drop u.x.i))
  | fr (W : List (Nat × Int)) (q : Option Int) (S : Int) (cb : CB ck t ver u W) (st : u.x.st = 7) (lt : u.x.i < u.x.rows.length) (top : u.x.made ≤ 1000) :
      RunAt ck t c ver u (decT S u.read (heldL (u.x.rows.drop u.x.i)) q (some u.x.made) [])
  | en (tb : TB ck t u) (busy : u.busy = true) (job : u.x.job = 4) (st : u.x.st = 8) (i : u.i = 5) (so : SumOk u) : RunAt ck t c ver u idleT
  | un (tb : TB ck t u) (busy : u.busy = true) (job : u.x.job = 5) (phased : u.x.phased = true) (rows : RowsOk u.x.rows) (le : u.x.old.length ≤ u.x.rows.length) (xi : u.x.i ≤ u.x.old.length) (old : OldFrom ver u.x.rows u.x.old u.x.i) (so : SumOk u) :
      RunAt ck t c ver u { idleT with held := heldL ((u.x.rows.take u.x.old.length).drop u.x.i) }

/-- The clock goes on, other stripes get other versions: it stands as before. -/
theorem RunAt.others {ck : Int} {t : Nat} {c c' : Int} {ver ver' : Nat → Int} {a : AT} {u : RU} (h : RunAt ck t c ver u a) (hc : c ≤ c') (hv : ∀ k, a.held k = true → ver' k = ver k) : RunAt ck t c' ver' u a := by
  have hcb : ∀ {W}, CB ck t ver u W → CB ck t ver' u W := fun h => ⟨h.tb, h.busy, h.alive, h.phased, h.job, h.i, h.w, h.rows⟩
  have hold : ∀ {l : List Int} {i : Nat}, (∀ (j k : Nat), i ≤ j → j < u.x.old.length → u.x.rows[j]? = some (k : Int) → (k : Int) ∈ l) → (∀ k, heldL l k = true → ver' k = ver k) → OldFrom ver u.x.rows u.x.old i → OldFrom ver' u.x.rows u.x.old i := fun hl hv ho j k hij hj hk => by
    rw [hv k (by unfold heldL; rw [decide_eq_true_iff]; exact hl j k hij hj hk)]
    exact ho j k hij hj hk
  cases h with
  | over h so => exact .over h so
  | btw tb busy alive sure phased job ws old i => exact .btw tb busy alive sure phased job ws old i
  | rd1 d pv tb busy alive sure phased job ws old i lt hd at_ hat xi pre st => exact .rd1 d pv tb busy alive sure phased job ws old i lt hd at_ hat xi pre st
  | rd2 d pv tb busy alive sure phased job ws old i lt hd at_ hat xi pre st => exact .rd2 d pv tb busy alive sure phased job ws old i lt hd at_ hat xi pre st
  | lk W cb sure xi lt old st =>
    refine .lk W (hcb cb) sure xi lt (hold (l := u.x.rows.take u.x.old.length) (fun j k _ hj hk => ?_) hv old) st
    exact List.mem_of_getElem? (i := j) (by rw [List.getElem?_take_of_lt hj]; exact hk)
  | bp W q cb sure full old st bump =>
    refine .bp W q (hcb cb) sure full (hold (l := u.x.rows) (fun j k _ hj hk => List.mem_of_getElem? hk) hv old) st ?_
    rcases bump with h | ⟨seen, h1, h2⟩
    · exact .inl h
    · exact .inr ⟨seen, by omega, h2⟩
  | ckd W q cb sure full old st lt top val =>
    refine .ckd W q (hcb cb) sure full (hold (l := u.x.rows) (fun j k _ hj hk => List.mem_of_getElem? hk) hv old) st lt top fun j k v hj hr hh => ?_
    rw [hv k hh]
    exact val j k v hj hr hh
  | wr W q S cb st lt top ne => exact .wr W q S (hcb cb) st lt top ne
  | fr W q S cb st lt top => exact .fr W q S (hcb cb) st lt top
  | en tb busy job st i so => exact .en tb busy job st i so
  | un tb busy job phased rows le xi old so =>
    refine .un tb busy job phased rows le xi (hold (l := (u.x.rows.take u.x.old.length).drop u.x.i) (fun j k hij hj hk => ?_) hv old) so
    exact List.mem_of_getElem? (i := j - u.x.i) (by rw [List.getElem?_drop, show u.x.i + (j - u.x.i) = j by omega, List.getElem?_take_of_lt hj]; exact hk)

/-- All of three words, wrapped, are forty. -/
def Good4 (h : Nat → Int) : Prop := (h 0 + h 1 + h 2 + h 3) % 18446744073709551616 = 40
/-- Three attempts, the words, and what stands there together. -/
structure Sim (ck N : Int) (s : MS) (us : Nat → RU) (A : AS) (H : Int → Nat → Int) (Hc : Nat → Int) : Prop where
  inv : AInv sgm Good4 H Hc A
  wds : Wds s A
  run : ∀ t : Nat, t < 3 → RunAt ck t A.c A.ver (us t) (A.T t)
  rest : ∀ t : Nat, 3 ≤ t → A.T t = idleT
  c0 : 0 ≤ A.c
  cN : A.c ≤ N
  v0 : ∀ k, 0 ≤ A.ver k
  ph : ∀ t : Nat, t < 3 → (us t).fin ≠ 0 ∨ (us t).x.phased = false → s.vAt (11 + 2 * (t : Int)) = 0

theorem Sim.sum {ck N : Int} {s : MS} {us : Nat → RU} {A : AS} {H : Int → Nat → Int} {Hc : Nat → Int} (h : Sim ck N s us A H Hc) {t : Nat} {u : RU} (hl : (A.T t).live = true) (hR : (A.T t).R = u.read) (rd : RdOk u.plan u.read) : SumOk u := fun hp h4 => by
  have key : ∀ j : Nat, j < 4 → ∃ v, u.read[j]? = some (j, v) ∧ v = H (A.T t).S j := fun j hj => by
    have hj' : j < u.read.length := by omega
    rcases hx : u.read[j] with ⟨a, v⟩
    have hg : u.read[j]? = some (a, v) := by rw [List.getElem?_eq_getElem hj', hx]
    have hq := rd.at_ j a v hg
    rw [hp] at hq
    have ha : a = j := by
      have : j = 0 ∨ j = 1 ∨ j = 2 ∨ j = 3 := by omega
      rcases this with rfl | rfl | rfl | rfl <;> simp [PR] at hq <;> omega
    subst ha
    exact ⟨v, hg, h.inv.rd t hl a v (by rw [hR]; exact List.mem_of_getElem? hg)⟩
  obtain ⟨a, ea, va⟩ := key 0 (by decide)
  obtain ⟨b, eb, vb⟩ := key 1 (by decide)
  obtain ⟨c, ec, vc⟩ := key 2 (by decide)
  obtain ⟨d, ed, vd⟩ := key 3 (by decide)
  refine ⟨a, b, c, d, ?_, ?_⟩
  · refine List.ext_getElem? fun j => ?_
    match j with
    | 0 => exact ea
    | 1 => exact eb
    | 2 => exact ec
    | 3 => exact ed
    | j + 4 => rw [List.getElem?_eq_none (by omega)]; rfl
  · have := h.inv.good (A.T t).S
    unfold Good4 at this
    rw [← va, ← vb, ← vc, ← vd] at this
    exact this

end Go.Proofs.Ytjfinnjmcnjciaa

namespace Go.Proofs.Ytjfinnjmcnjciaa
open Go.RowKit

section
variable {ck N : Int} {s s' : MS} {us : Nat → RU} {A A' : AS} {H H' : Int → Nat → Int} {Hc Hc' : Nat → Int} {t : Nat} {u' : RU}
theorem Sim.turn (h : Sim ck N s us A H Hc) (ht : t < 3) (inv : AInv sgm Good4 H' Hc' A') (wds : Wds s' A') (run : RunAt ck t A'.c A'.ver u' (A'.T t)) (oth : ∀ j, j ≠ t → A'.T j = A.T j)
    (c1 : A.c ≤ A'.c) (c2 : A'.c ≤ A.c + 1) (hv : ∀ k, A'.ver k = A.ver k ∨ (A.T t).held k = true ∧ 0 ≤ A'.ver k)
    (p1 : ∀ j : Nat, j < 3 → j ≠ t → s'.vAt (11 + 2 * (j : Int)) = s.vAt (11 + 2 * (j : Int))) (p2 : u'.fin ≠ 0 ∨ u'.x.phased = false → s'.vAt (11 + 2 * (t : Int)) = 0) : Sim ck (N + 1) s' (fset us t u') A' H' Hc' := by
  refine ⟨inv, wds, fun j hj => ?_, fun j hj => ?_, ?_, ?_, fun k => ?_, fun j hj => ?_⟩
  · by_cases e : j = t
    · subst e; rw [fset_at]; exact run
    · rw [fset_ne _ _ e, oth j e]
      refine (h.run j hj).others c1 fun k hk => ?_
      rcases hv k with h1 | ⟨h1, _⟩
      · exact h1
      · exact absurd (h.inv.one j t k hk h1) e
  · rw [oth j (by omega)]; exact h.rest j hj
  · have := h.c0; omega
  · have := h.cN; omega
  · rcases hv k with h1 | ⟨_, h1⟩
    · rw [h1]; exact h.v0 k
    · exact h1
  · by_cases e : j = t
    · subst e; rw [fset_at]; exact p2
    · rw [fset_ne _ _ e, p1 j hj e]; exact h.ph j hj
/-- Nothing has turned but the attempt itself. -/
theorem Sim.quiet (h : Sim ck N s us A H Hc) (ht : t < 3) (a : AT) (inv : AInv sgm Good4 H Hc (A.upd t a)) (hh : ∀ k, a.held k = (A.T t).held k) (hz : s'.zs.length = s.zs.length) (hq : ∀ q, (q < 11 ∨ 16 ≤ q ∨ q ≠ 11 + 2 * (t : Int)) → s'.vAt q = s.vAt q) (run : RunAt ck t A.c A.ver u' a)
    (p2 : u'.fin ≠ 0 ∨ u'.x.phased = false → s'.vAt (11 + 2 * (t : Int)) = 0) : Sim ck (N + 1) s' (fset us t u') (A.upd t a) H Hc := by
  have e0 : (A.upd t a).T t = a := A.upd_at t a
  refine h.turn ht inv (h.wds.same hz (fun q hq' => hq q (by omega)) (fun j k => ?_) rfl rfl rfl) ?_ (fun j hj => A.upd_ne a hj) (Int.le_refl _) (by show A.c ≤ A.c + 1; omega) (fun k => .inl rfl) (fun j hj hne => hq _ (.inr (.inr (by omega)))) p2
  · by_cases e : j = t
    · subst e; rw [e0, hh]
    · rw [A.upd_ne a e]
  · rw [e0]; exact run
end

theorem asksR_busy (n : Nat) {u : RU} (h : u.busy = true) : asksR n u = u := by
  cases n with
  | zero => rfl
  | succ n => unfold asksR; rw [if_neg (fun hh => by rw [h] at hh; cases hh.1)]
theorem asksR_go {n : Nat} {u : RU} (h : u.busy = false) (hf : u.fin = 0) : asksR (n + 1) u = asksR n (askR u) := by
  show (if u.busy = false ∧ u.fin = 0 then asksR n (askR u) else u) = _
  rw [if_pos ⟨h, hf⟩]
theorem asksR_end (n : Nat) {u : RU} (h : u.fin ≠ 0) : asksR n u = u := by
  cases n with
  | zero => rfl
  | succ n => unfold asksR; rw [if_neg (fun hh => h hh.2)]
theorem nextR_busy {s : MS} {u : RU} (h : u.busy = true) (hf : u.fin = 0) : nextR s u = (stepR s u, (txStep s u.x).2.2) := by
  unfold nextR
  rw [asksR_busy 9 h, if_neg (by rw [hf]; decide), if_neg (by rw [hf]; decide)]
theorem nextR_over {s : MS} {u : RU} (h : u.fin ≠ 0) : nextR s u = (u, s) := by unfold nextR; rw [if_pos h]
/-- What it asks leaves it busy: then comes its step. -/
theorem nextR_asks {s : MS} {u v : RU} (hf : u.fin = 0) (ha : asksR 9 u = v) (hb : v.fin = 0) : nextR s u = (stepR s v, (txStep s v.x).2.2) := by
  unfold nextR
  rw [ha, if_neg (by rw [hf]; decide), if_neg (by rw [hb]; decide)]
theorem stepR_busy {s : MS} {u : RU} {x : TX} {s' : MS} (h : txStep s u.x = (0, x, s')) : stepR s u = { u with x := x } := by
  unfold stepR
  rw [h]
  rfl
theorem stepR_dead {s : MS} {u : RU} {x : TX} {s' : MS} (h : txStep s u.x = (2, x, s')) : stepR s u = { u with x := x, fin := 2 } := by
  unfold stepR
  rw [h]
  rfl
theorem stepR_done {s : MS} {u : RU} {x : TX} {s' : MS} (h : txStep s u.x = (1, x, s')) : stepR s u = doneR { u with x := x } := by
  unfold stepR
  rw [h]
  rfl
theorem abort_dead {x : TX} (h1 : x.old = []) (h2 : x.phased = false) (c : Int) : x.abort c = (2, { x with cause := c, made := 0, alive := false, job := 0, st := 0, i := 0 }) := if_pos ⟨h1, h2⟩
theorem abort_busy {x : TX} (h2 : x.phased = true) (c : Int) : x.abort c = (0, { x with cause := c, made := 0, alive := false, job := 5, st := 0, i := 0 }) := if_neg (fun h => by rw [h2] at h; cases h.2)
theorem step_read {s : MS} {x : TX} (h : x.job = 2) : txStep s x = stRead s x := by unfold txStep; rw [h]; rfl
theorem step_com {s : MS} {x : TX} (h : x.job = 4) : txStep s x = stCommit s x := by unfold txStep; rw [h]; rfl
theorem step_undo {s : MS} {x : TX} (h : x.job = 5) : txStep s x = stUndo s x := by unfold txStep; rw [h]; rfl
theorem vq_other (s : MS) (p q : Int) : (s.loaded p).vAt q = s.vAt q := vq_loaded s p q

theorem stRead_0y {s : MS} {x : TX} {row : Int} (st : x.st = 0) (hr : x.stripeP (x.m.hash x.at_) = row) (hf : freshF (s.vAt row) x.stamp = 0) : stRead s x = (0, { x with pre := s.vAt row, st := 1 }, s.loaded row) := by
  unfold stRead
  rw [if_pos st, hr, if_neg (by rw [hf]; decide)]
theorem stRead_0n {s : MS} {x : TX} {row : Int} (st : x.st = 0) (hr : x.stripeP (x.m.hash x.at_) = row) (hf : freshF (s.vAt row) x.stamp ≠ 0) (h1 : x.old = []) (h2 : x.phased = false) :
    stRead s x = (2, { x with pre := s.vAt row, cause := freshF (s.vAt row) x.stamp, made := 0, alive := false, job := 0, st := 0, i := 0 }, s.loaded row) := by
  unfold stRead
  rw [if_pos st, hr, if_pos hf, abort_dead (x := { x with pre := s.vAt row }) h1 h2]
theorem stRead_1 {s : MS} {x : TX} (st : x.st = 1) : stRead s x = (0, { x with got := s.vAt x.at_, st := 2 }, s.loaded x.at_) := by
  unfold stRead
  rw [if_neg (by rw [st]; decide), if_pos st]
theorem stRead_2y {s : MS} {x : TX} {row : Int} (st : x.st = 2) (hr : x.stripeP (x.m.hash x.at_) = row) (hc : s.vAt row = x.pre) (hi : ¬ x.i < x.wt.length) :
    stRead s x = (1, { x with st := 3, val := x.got, rs := putL x.mr x.rs (x.m.hash x.at_) 0, job := 0 }, s.loaded row) := by
  unfold stRead
  rw [if_neg (by rw [st]; decide), if_neg (by rw [st]; decide), if_pos st, hr, if_neg (by simpa using hc)]
  unfold readEnd
  rw [if_neg hi]
theorem stRead_2n {s : MS} {x : TX} {row : Int} (st : x.st = 2) (hr : x.stripeP (x.m.hash x.at_) = row) (hc : s.vAt row ≠ x.pre) (h1 : x.old = []) (h2 : x.phased = false) :
    stRead s x = (2, { x with cause := 2, made := 0, alive := false, job := 0, st := 0, i := 0 }, s.loaded row) := by
  unfold stRead
  rw [if_neg (by rw [st]; decide), if_neg (by rw [st]; decide), if_pos st, hr, if_pos hc, abort_dead h1 h2]
theorem doneR_more {u : RU} (h : ¬ u.plan.length < u.i) {d : Nat} {z : Int} (h0 : 0 < u.i) (ha : u.plan.getD (u.i - 1) (false, 0, 0) = (false, d, z)) : doneR u = { u with busy := false, read := u.read ++ [(d, u.x.val)], i := u.i + 1 } := by
  unfold doneR
  rw [if_neg h, if_pos ⟨h0, by rw [ha]⟩, ha]
theorem doneR_wrote {u : RU} (h : ¬ u.plan.length < u.i) {d : Nat} {z : Int} (ha : u.plan.getD (u.i - 1) (false, 0, 0) = (true, d, z)) : doneR u = { u with busy := false, i := u.i + 1 } := by
  unfold doneR
  rw [if_neg h, if_neg (by rw [ha]; simp)]
theorem doneR_end {u : RU} (h : u.plan.length < u.i) : doneR u = { u with busy := false, fin := 1 } := by
  unfold doneR
  rw [if_pos h]

/-- Where the stripe of the place that is read stands. -/
theorem TB.stripe {ck : Int} {t : Nat} {u : RU} (tb : TB ck t u) {d : Nat} (hd : d < 4) (ha : u.x.at_ = dataP d) : u.x.stripeP (u.x.m.hash u.x.at_) = 2 + (sgm d : Int) := by
  unfold TX.stripeP
  rw [tb.m, ha]
  unfold dataP
  rw [(mT_hash hd).1, mT_stripe (mT_hash hd).2]
theorem TB.hash {ck : Int} {t : Nat} {u : RU} (tb : TB ck t u) {d : Nat} (hd : d < 4) (ha : u.x.at_ = dataP d) : u.x.m.hash u.x.at_ = (sgm d : Int) := by
  rw [tb.m, ha]
  exact (mT_hash hd).1

section
variable {ck N : Int} {s : MS} {us : Nat → RU} {A : AS} {H : Int → Nat → Int} {Hc : Nat → Int} {t : Nat}
/-- What a pick comes to. -/
def Next (ck N : Int) (s : MS) (us : Nat → RU) (t : Nat) : Prop := ∃ A H Hc, Sim ck (N + 1) (nextR s (us t)).2 (fset us t (nextR s (us t)).1) A H Hc
theorem idle_inv (h : Sim ck N s us A H Hc) (hh : ∀ k, (A.T t).held k = false) : AInv sgm Good4 H Hc (A.upd t idleT) := h.inv.idle t hh

/-- The stripe again: the read is done, or it is aborted. -/
theorem next_rd2 (h : Sim ck N s us A H Hc) (ht : t < 3) (u : RU) (hu : us t = u) (d : Nat) (pv : Int) (tb : TB ck t u) (busy : u.busy = true) (alive : u.x.alive = true) (sure : u.x.sure = false) (phased : u.x.phased = false) (job : u.x.job = 2) (ws : u.x.ws = []) (old : u.x.old = []) (i : u.i = u.read.length + 1)
    (lt : u.read.length < nrd u.plan) (hd : d < 4) (at_ : (u.plan : List (Bool × Nat × Int))[u.read.length]? = some (false, d, 0)) (hat : u.x.at_ = dataP d) (xi : u.x.i = 0) (pre : u.x.pre = pv * 16) (st : u.x.st = 2)
    (ha : A.T t = rdT u.x.stamp u.read (some (d, pv)) (some u.x.got)) : Next ck N s us t := by
  have hs := (mT_hash hd).2
  have hsp := tb.stripe hd hat
  have hph := h.ph t ht (.inr (by rw [hu]; exact phased))
  have hpl := tb.plan.len
  unfold Next
  rw [hu, nextR_busy busy tb.fin, step_read job]
  by_cases hc : s.vAt (2 + (sgm d : Int)) = u.x.pre
  · have e := stRead_2y st hsp hc (by rw [xi, tb.wt]; simp)
    have hf := h.wds.free hs (by rw [hc, pre]; omega)
    have hv : A.ver (sgm d) = pv := by have := hf.2; rw [hc, pre] at this; omega
    have hm : (A.T t).mid = some (d, A.ver (sgm d)) := by rw [ha, hv]; rfl
    have hl : (A.T t).live = true := by rw [ha]; rfl
    have hg : (A.T t).got = some u.x.got := by rw [ha]; rfl
    obtain ⟨inv, _⟩ := h.inv.rdC t d u.x.got hl hm hg hf.1
    have hA : ({ A.T t with R := (A.T t).R ++ [(d, u.x.got)], mid := none, got := none } : AT) = rdT u.x.stamp (u.read ++ [(d, u.x.got)]) none none := by rw [ha]; rfl
    rw [hA] at inv
    have hat' : u.plan.getD (u.i - 1) (false, 0, 0) = (false, d, 0) := by
      rw [i, Nat.add_sub_cancel, List.getD_eq_getElem?_getD, at_]; rfl
    have e1 : txStep s u.x = _ := (step_read job).trans e
    have e2 := stepR_done (s := s) (u := u) e1
    rw [doneR_more (d := d) (z := 0)] at e2
    · rw [e2, e]
      refine ⟨_, _, _, h.quiet ht _ inv (fun k => by rw [ha]; rfl) (len_loaded _ _) (fun q _ => vq_loaded _ _ _) ?_ (fun _ => by rw [vq_loaded]; exact hph)⟩
      refine .btw ?_ ?_ ?_ ?_ ?_ ?_ ?_ ?_ ?_
      · refine ⟨tb.m, tb.th, tb.ckk, tb.top, tb.mr, tb.mw, tb.wt, tb.plan, tb.rd.snoc _ lt at_, ?_, tb.fin, tb.sp⟩
        show RsOk (putL u.x.mr u.x.rs (u.x.m.hash u.x.at_) 0) _
        rw [tb.mr, tb.hash hd hat]
        exact tb.rs.snoc hd _ (by omega)
      · rfl
      · exact alive
      · exact sure
      · exact phased
      · rfl
      · exact ws
      · exact old
      · show u.i + 1 = (u.read ++ [(d, u.x.got)]).length + 1
        rw [List.length_append, List.length_singleton, i]
    · show ¬ u.plan.length < u.i
      omega
    · show 0 < u.i
      omega
    · exact hat'
  · have e := stRead_2n st hsp hc old phased
    rw [stepR_dead (by rw [step_read job]; exact e), e]
    exact ⟨_, _, _, h.quiet ht idleT (idle_inv h (fun k => by rw [ha]; rfl)) (fun k => by rw [ha]; rfl) (len_loaded _ _) (fun q _ => vq_loaded _ _ _) (.over (by show (2 : Int) ≠ 0; decide) (h.sum (t := t) (u := u) (by rw [ha]; rfl) (by rw [ha]; rfl) tb.rd)) (fun _ => by rw [vq_loaded]; exact hph)⟩

/-- The word itself. -/
theorem next_rd1 (h : Sim ck N s us A H Hc) (ht : t < 3) (u : RU) (hu : us t = u) (d : Nat) (pv : Int) (tb : TB ck t u) (busy : u.busy = true) (alive : u.x.alive = true) (sure : u.x.sure = false) (phased : u.x.phased = false) (job : u.x.job = 2) (ws : u.x.ws = []) (old : u.x.old = []) (i : u.i = u.read.length + 1)
    (lt : u.read.length < nrd u.plan) (hd : d < 4) (at_ : (u.plan : List (Bool × Nat × Int))[u.read.length]? = some (false, d, 0)) (hat : u.x.at_ = dataP d) (xi : u.x.i = 0) (pre : u.x.pre = pv * 16) (st : u.x.st = 1)
    (ha : A.T t = rdT u.x.stamp u.read (some (d, pv)) none) : Next ck N s us t := by
  have hph := h.ph t ht (.inr (by rw [hu]; exact phased))
  unfold Next
  have e := stRead_1 (s := s) st
  rw [hat] at e
  rw [hu, nextR_busy busy tb.fin, stepR_busy (by rw [step_read job]; exact e), step_read job, e]
  have hm : (A.T t).mid = some (d, pv) := by rw [ha]; rfl
  have hl : (A.T t).live = true := by rw [ha]; rfl
  have inv := h.inv.rdB t d pv hl hm
  have hdat : A.d d = s.vAt (dataP d) := (h.wds.dat d hd).symm
  have hA : ({ A.T t with got := some (A.d d) } : AT) = rdT u.x.stamp u.read (some (d, pv)) (some (s.vAt (dataP d))) := by rw [ha, hdat]; rfl
  rw [hA] at inv
  exact ⟨_, _, _, h.quiet ht _ inv (fun k => by rw [ha]; rfl) (len_loaded _ _) (fun q _ => vq_loaded _ _ _) (.rd2 d pv ⟨tb.m, tb.th, tb.ckk, tb.top, tb.mr, tb.mw, tb.wt, tb.plan, tb.rd, tb.rs, tb.fin, tb.sp⟩ busy alive sure phased job ws old i lt hd at_ rfl xi pre rfl) (fun _ => by rw [vq_loaded]; exact hph)⟩

/-- A read is asked, and the stripe looked at. -/
theorem next_rd0 (h : Sim ck N s us A H Hc) (ht : t < 3) (u : RU) (hu : us t = u) (tb : TB ck t u) (busy : u.busy = false) (alive : u.x.alive = true) (sure : u.x.sure = false) (phased : u.x.phased = false) (job : u.x.job = 0) (ws : u.x.ws = []) (old : u.x.old = []) (i : u.i = u.read.length + 1)
    (lt : u.read.length < nrd u.plan) (ha : A.T t = rdT u.x.stamp u.read none none) : Next ck N s us t := by
  obtain ⟨d, hd, at_, hat'⟩ := tb.plan.at lt
  have hs := (mT_hash hd).2
  have hph := h.ph t ht (.inr (by rw [hu]; exact phased))
  have hpl := tb.plan.len
  have hr4 := tb.rs.len
  have ei : u.plan.getD (u.i - 1) (false, 0, 0) = (false, d, 0) := by rw [i, Nat.add_sub_cancel]; exact hat'
  have eask : askC u = (0, { u.x with job := 2, st := 0, i := 0, asked := if mayL u.x.ws (dataP d) = true then u.x.asked + 1 else u.x.asked, at_ := dataP d }) := by
    unfold askC
    rw [if_neg (show ¬ u.i = 0 by omega), if_neg (show ¬ u.plan.length < u.i by omega), ei, if_pos rfl]
    unfold txRead
    rw [if_pos ⟨alive, job⟩, if_pos (show 0 ≤ dataP d ∧ dataP d < u.x.m.size by rw [tb.m, mT_size]; unfold dataP; omega), if_neg (show ¬ hasL u.x.ws (dataP d) = true by rw [ws]; simp [hasL]), if_pos (show roomL u.x.mr u.x.rs (u.x.m.hash (dataP d)) = true by
      rw [tb.mr]
      unfold roomL
      rw [decide_eq_true (show u.x.rs.length < 32 by omega), Bool.or_true])]
  have e9 : asksR 9 u = { u with x := { u.x with job := 2, st := 0, i := 0, asked := if mayL u.x.ws (dataP d) = true then u.x.asked + 1 else u.x.asked, at_ := dataP d }, busy := true } := by
    rw [asksR_go busy tb.fin]
    unfold askR tookC
    rw [eask]
    exact asksR_busy 8 rfl
  unfold Next
  rw [hu, nextR_asks tb.fin e9 tb.fin]
  generalize hx : ({ u.x with job := 2, st := 0, i := 0, asked := if mayL u.x.ws (dataP d) = true then u.x.asked + 1 else u.x.asked, at_ := dataP d } : TX) = x
  have f1 : x.job = 2 := by subst hx; rfl
  have f2 : x.st = 0 := by subst hx; rfl
  have f3 : x.stripeP (x.m.hash x.at_) = 2 + (sgm d : Int) := by
    subst hx
    show u.x.stripeP (u.x.m.hash (dataP d)) = _
    unfold TX.stripeP
    rw [tb.m]
    unfold dataP
    rw [(mT_hash hd).1, mT_stripe hs]
  have f4 : x.stamp = u.x.stamp := by subst hx; rfl
  have f5 : x.old = [] ∧ x.phased = false ∧ x.alive = true ∧ x.sure = false ∧ x.ws = [] ∧ x.i = 0 ∧ x.at_ = dataP d ∧ x.rs = u.x.rs := by subst hx; exact ⟨old, phased, alive, sure, ws, rfl, rfl, rfl⟩
  have f6 : x.m = mT ∧ x.th = (t : Int) ∧ x.ck = ck ∧ x.top = 1000 ∧ x.mr = 32 ∧ x.mw = 32 ∧ x.wt = [] := by subst hx; exact ⟨tb.m, tb.th, tb.ckk, tb.top, tb.mr, tb.mw, tb.wt⟩
  clear hx eask e9
  obtain ⟨g1, g2, g3, g4, g5, g6, g7, g8⟩ := f5
  obtain ⟨m1, m2, m3, m4, m5, m6, m7⟩ := f6
  by_cases hf : freshF (s.vAt (2 + (sgm d : Int))) x.stamp = 0
  · have e := stRead_0y f2 f3 hf
    rw [stepR_busy (by show txStep s x = _; rw [step_read f1]; exact e)]
    show ∃ A H Hc, Sim ck (N + 1) (txStep s x).2.2 _ A H Hc
    rw [step_read f1, e]
    obtain ⟨hz, hle⟩ := fresh_zero hf
    obtain ⟨_, hword⟩ := h.wds.free hs hz
    have hv : A.ver (sgm d) ≤ (A.T t).S := by rw [ha]; show A.ver (sgm d) ≤ u.x.stamp; rw [← f4]; omega
    have inv := h.inv.rdA t d (by rw [ha]; rfl) hv
    have hA : ({ A.T t with mid := some (d, A.ver (sgm d)), got := none } : AT) = rdT x.stamp u.read (some (d, A.ver (sgm d))) none := by rw [ha, f4]; rfl
    rw [hA] at inv
    exact ⟨_, _, _, h.quiet ht _ inv (fun k => by rw [ha]; rfl) (len_loaded _ _) (fun q _ => vq_loaded _ _ _) (.rd1 d (A.ver (sgm d)) ⟨m1, m2, m3, m4, m5, m6, m7, tb.plan, tb.rd, by show RsOk x.rs u.read; rw [g8]; exact tb.rs, tb.fin, by show 0 ≤ x.stamp; rw [f4]; exact tb.sp⟩ rfl g3 g4 g2 f1 g5 g1 i lt hd at_ g7 g6 hword rfl) (fun _ => by rw [vq_loaded]; exact hph)⟩
  · have e := stRead_0n f2 f3 hf g1 g2
    rw [stepR_dead (by show txStep s x = _; rw [step_read f1]; exact e)]
    show ∃ A H Hc, Sim ck (N + 1) (txStep s x).2.2 _ A H Hc
    rw [step_read f1, e]
    exact ⟨_, _, _, h.quiet ht idleT (idle_inv h (fun k => by rw [ha]; rfl)) (fun k => by rw [ha]; rfl) (len_loaded _ _) (fun q _ => vq_loaded _ _ _) (.over (by show (2 : Int) ≠ 0; decide) (h.sum (t := t) (u := u) (by rw [ha]; rfl) (by rw [ha]; rfl) tb.rd)) (fun _ => by rw [vq_loaded]; exact hph)⟩
end

end Go.Proofs.Ytjfinnjmcnjciaa

namespace Go.Proofs.Ytjfinnjmcnjciaa
open Go.RowKit

section
variable {s : MS} {x : TX}
theorem stC0r (st : x.st = 0) (ws : x.ws = []) (wt : x.wt = []) : stCommit s x = (0, { x with phased := true, i := 0, st := 8, sure := true }, s.stored x.phaseP 2) := by
  obtain ⟨m, th, ck, top, mr, mw, rs, ws', asked, wt', alive, sure, phased, job, st', i, at_, got, pre, next, val, stamp, made, cause, rows, old, bump⟩ := x
  simp only at st ws wt
  subst st ws wt
  rfl
theorem stC0w (st : x.st = 0) (ws : x.ws ≠ []) : stCommit s x = (0, { x with phased := true, i := 0, st := 1, rows := rowsL x.m (x.ws.map fun p => p.1) x.m.s.toNat }, s.stored x.phaseP 2) := by
  unfold stCommit
  rw [if_pos st]
  unfold TX.tell
  simp only [ws, if_false, ne_eq, true_or, if_true, show ¬ ((1 : Int) = 5) by decide, not_false_eq_true]
theorem stC1n (st : x.st = 1) {row : Int} (hr : x.stripeP (x.rows.getD x.i 0) = row) (hh : 0 ≤ holF (s.vAt row)) (h2 : x.phased = true) :
    stCommit s x = (0, { x with pre := s.vAt row, cause := 1, made := 0, alive := false, job := 5, st := 0, i := 0 }, s.loaded row) := by
  unfold stCommit
  rw [if_neg (by rw [st]; decide), if_pos st, hr, if_pos hh, abort_busy (x := { x with pre := s.vAt row }) h2]
theorem stC1y (st : x.st = 1) {row : Int} (hr : x.stripeP (x.rows.getD x.i 0) = row) (hh : ¬ 0 ≤ holF (s.vAt row)) : stCommit s x = (0, { x with pre := s.vAt row, st := 2 }, s.loaded row) := by
  unfold stCommit
  rw [if_neg (by rw [st]; decide), if_pos st, hr, if_neg hh]
theorem stC2n (st : x.st = 2) {row : Int} (hr : x.stripeP (x.rows.getD x.i 0) = row) (hh : s.okAt row x.pre = false) (h2 : x.phased = true) :
    stCommit s x = (0, { x with cause := 1, made := 0, alive := false, job := 5, st := 0, i := 0 }, s.swapped row x.pre (takeF x.pre x.th)) := by
  unfold stCommit
  rw [if_neg (by rw [st]; decide), if_neg (by rw [st]; decide), if_pos st, hr, if_neg (by rw [hh]; decide), abort_busy h2]
theorem stC2more (st : x.st = 2) {row : Int} (hr : x.stripeP (x.rows.getD x.i 0) = row) (hh : s.okAt row x.pre = true) (hi : x.i + 1 ≠ x.rows.length) :
    stCommit s x = (0, { x with old := x.old ++ [x.pre], i := x.i + 1, st := 1 }, s.swapped row x.pre (takeF x.pre x.th)) := by
  unfold stCommit
  rw [if_neg (by rw [st]; decide), if_neg (by rw [st]; decide), if_pos st, hr, if_pos hh, if_neg hi]
theorem stC2last (st : x.st = 2) {row : Int} (hr : x.stripeP (x.rows.getD x.i 0) = row) (hh : s.okAt row x.pre = true) (hi : x.i + 1 = x.rows.length) :
    stCommit s x = (0, { x with old := x.old ++ [x.pre], i := x.i + 1, st := 3, bump := startB x.ck }, s.swapped row x.pre (takeF x.pre x.th)) := by
  unfold stCommit
  rw [if_neg (by rw [st]; decide), if_neg (by rw [st]; decide), if_pos st, hr, if_pos hh, if_pos hi]
theorem stC3more (st : x.st = 3) {b : BD} {s2 : MS} (hb : bumpF x.m s x.bump = (b, s2)) (h9 : b.s ≠ 9) : stCommit s x = (0, { x with bump := b }, s2) := by
  unfold stCommit
  rw [if_neg (by rw [st]; decide), if_neg (by rw [st]; decide), if_neg (by rw [st]; decide), if_pos st, hb, if_pos h9]
theorem stC3own (st : x.st = 3) {b : BD} {s2 : MS} (hb : bumpF x.m s x.bump = (b, s2)) (h9 : b.s = 9) (ht : ¬ x.top < b.p) (ho : b.k = 1 ∧ b.p = wrap64 (x.stamp + 1)) (wt : x.wt = []) (ws : x.ws ≠ []) :
    stCommit s x = (0, { x with bump := b, made := b.p, i := 0, st := 6, sure := true }, s2) := by
  unfold stCommit
  rw [if_neg (by rw [st]; decide), if_neg (by rw [st]; decide), if_neg (by rw [st]; decide), if_pos st, hb, if_neg (by simpa using h9), if_neg ht]
  unfold TX.tell
  simp only [ho, wt, ws, and_self, true_or, if_true, if_false, List.length_nil, ne_eq, not_true_eq_false, Nat.lt_irrefl, or_self]
theorem stC3check (st : x.st = 3) {b : BD} {s2 : MS} (hb : bumpF x.m s x.bump = (b, s2)) (h9 : b.s = 9) (ht : ¬ x.top < b.p) (ho : ¬ (b.k = 1 ∧ b.p = wrap64 (x.stamp + 1))) (rs : x.rs ≠ []) :
    stCommit s x = (0, { x with bump := b, made := b.p, i := 0, st := 4 }, s2) := by
  unfold stCommit
  rw [if_neg (by rw [st]; decide), if_neg (by rw [st]; decide), if_neg (by rw [st]; decide), if_pos st, hb, if_neg (by simpa using h9), if_neg ht]
  unfold TX.tell
  simp only [ho, rs, or_self, if_false, ne_eq, show ¬ ((4 : Int) = 5) by decide, not_false_eq_true, true_or, if_true]
theorem stC4held (st : x.st = 4) {row : Int} (hr : x.stripeP (x.rs.getD x.i (0, 0)).1 = row) (hh : 0 ≤ holF (s.vAt row) ∧ holF (s.vAt row) ≠ x.th) (h2 : x.phased = true) :
    stCommit s x = (0, { x with cause := 1, made := 0, alive := false, job := 5, st := 0, i := 0 }, s.loaded row) := by
  unfold stCommit
  rw [if_neg (by rw [st]; decide), if_neg (by rw [st]; decide), if_neg (by rw [st]; decide), if_neg (by rw [st]; decide), if_pos st, hr, if_pos hh, abort_busy h2]
theorem stC4stale (st : x.st = 4) {row : Int} (hr : x.stripeP (x.rs.getD x.i (0, 0)).1 = row) (hh : ¬ (0 ≤ holF (s.vAt row) ∧ holF (s.vAt row) ≠ x.th)) (hv : x.stamp < verF (s.vAt row)) (h2 : x.phased = true) :
    stCommit s x = (0, { x with cause := 2, made := 0, alive := false, job := 5, st := 0, i := 0 }, s.loaded row) := by
  unfold stCommit
  rw [if_neg (by rw [st]; decide), if_neg (by rw [st]; decide), if_neg (by rw [st]; decide), if_neg (by rw [st]; decide), if_pos st, hr, if_neg hh, if_pos hv, abort_busy h2]
theorem stC4more (st : x.st = 4) {row : Int} (hr : x.stripeP (x.rs.getD x.i (0, 0)).1 = row) (hh : ¬ (0 ≤ holF (s.vAt row) ∧ holF (s.vAt row) ≠ x.th)) (hv : ¬ x.stamp < verF (s.vAt row)) (hi : x.i + 1 < x.rs.length) :
    stCommit s x = (0, { x with i := x.i + 1 }, s.loaded row) := by
  unfold stCommit
  rw [if_neg (by rw [st]; decide), if_neg (by rw [st]; decide), if_neg (by rw [st]; decide), if_neg (by rw [st]; decide), if_pos st, hr, if_neg hh, if_neg hv, if_pos hi]
theorem stC4last (st : x.st = 4) {row : Int} (hr : x.stripeP (x.rs.getD x.i (0, 0)).1 = row) (hh : ¬ (0 ≤ holF (s.vAt row) ∧ holF (s.vAt row) ≠ x.th)) (hv : ¬ x.stamp < verF (s.vAt row)) (hi : ¬ x.i + 1 < x.rs.length) (wt : x.wt = []) (ws : x.ws ≠ []) :
    stCommit s x = (0, { x with i := 0, st := 6, sure := true }, s.loaded row) := by
  unfold stCommit
  rw [if_neg (by rw [st]; decide), if_neg (by rw [st]; decide), if_neg (by rw [st]; decide), if_neg (by rw [st]; decide), if_pos st, hr, if_neg hh, if_neg hv, if_neg hi]
  unfold TX.tell
  simp only [wt, ws, if_false, List.length_nil, ne_eq, not_true_eq_false, Nat.lt_irrefl, or_self]
theorem stC6more (st : x.st = 6) (hi : x.i + 1 ≠ x.ws.length) : stCommit s x = (0, { x with i := x.i + 1 }, s.stored (x.ws.getD x.i (0, 0)).1 (x.ws.getD x.i (0, 0)).2) := by
  unfold stCommit
  rw [if_neg (by rw [st]; decide), if_neg (by rw [st]; decide), if_neg (by rw [st]; decide), if_neg (by rw [st]; decide), if_neg (by rw [st]; decide), if_neg (by rw [st]; decide), if_pos st, if_neg hi]
theorem stC6last (st : x.st = 6) (hi : x.i + 1 = x.ws.length) : stCommit s x = (0, { x with st := 7, i := 0 }, s.stored (x.ws.getD x.i (0, 0)).1 (x.ws.getD x.i (0, 0)).2) := by
  unfold stCommit
  rw [if_neg (by rw [st]; decide), if_neg (by rw [st]; decide), if_neg (by rw [st]; decide), if_neg (by rw [st]; decide), if_neg (by rw [st]; decide), if_neg (by rw [st]; decide), if_pos st, if_pos hi]
theorem stC7more (st : x.st = 7) {row : Int} (hr : x.stripeP (x.rows.getD x.i 0) = row) (hi : x.i + 1 ≠ x.rows.length) : stCommit s x = (0, { x with i := x.i + 1 }, s.stored row (freeF x.made)) := by
  unfold stCommit
  rw [if_neg (by rw [st]; decide), if_neg (by rw [st]; decide), if_neg (by rw [st]; decide), if_neg (by rw [st]; decide), if_neg (by rw [st]; decide), if_neg (by rw [st]; decide), if_neg (by rw [st]; decide), if_pos st, hr, if_neg hi]
theorem stC7last (st : x.st = 7) {row : Int} (hr : x.stripeP (x.rows.getD x.i 0) = row) (hi : x.i + 1 = x.rows.length) : stCommit s x = (0, { x with st := 8, i := x.i + 1 }, s.stored row (freeF x.made)) := by
  unfold stCommit
  rw [if_neg (by rw [st]; decide), if_neg (by rw [st]; decide), if_neg (by rw [st]; decide), if_neg (by rw [st]; decide), if_neg (by rw [st]; decide), if_neg (by rw [st]; decide), if_neg (by rw [st]; decide), if_pos st, hr, if_pos hi]
theorem stC8 (st : x.st = 8) : stCommit s x = (1, { x with stamp := if x.ws = [] then x.stamp else x.made, alive := false, job := 0 }, s.stored x.phaseP 0) := by
  unfold stCommit
  rw [if_neg (by rw [st]; decide), if_neg (by rw [st]; decide), if_neg (by rw [st]; decide), if_neg (by rw [st]; decide), if_neg (by rw [st]; decide), if_neg (by rw [st]; decide), if_neg (by rw [st]; decide), if_neg (by rw [st]; decide)]
theorem stU_row (hi : x.i < x.old.length) (h2 : x.phased = true) (job : x.job = 5) {row : Int} (hr : x.stripeP (x.rows.getD x.i 0) = row) : stUndo s x = (0, { x with i := x.i + 1 }, s.stored row (x.old.getD x.i 0)) := by
  obtain ⟨m, th, ck, top, mr, mw, rs, ws', asked, wt', alive, sure, phased, job', st', i, at_, got, pre, next, val, stamp, made, cause, rows, old, bump⟩ := x
  simp only at hi h2 job
  subst h2 job
  unfold stUndo
  rw [if_pos hi, hr]
  simp
theorem stU_end (hi : ¬ x.i < x.old.length) : stUndo s x = (2, { x with phased := false, job := 0 }, s.stored x.phaseP 0) := by
  unfold stUndo
  rw [if_neg hi]
end

/-- A stripe's word turns. -/
theorem Wds.word {s s' : MS} {A A' : AS} (h : Wds s A) {k : Nat} (w : Int) (hz : s'.zs.length = s.zs.length) (hv : ∀ q, s'.vAt q = if q = 2 + (k : Int) then w else s.vAt q) (hk : k < 3) (hc : A'.c = A.c) (hd : A'.d = A.d)
    (hr : ∀ j, j ≠ k → A'.ver j = A.ver j) (hh : ∀ t j, j ≠ k → (A'.T t).held j = (A.T t).held j) (h1 : (∀ t, (A'.T t).held k = false) → w = A'.ver k * 16) (h2 : ∀ t : Nat, (A'.T t).held k = true → t < 3 ∧ w = A'.ver k * 16 + (t : Int) + 1) : Wds s' A' := by
  refine ⟨hz.trans h.len, ?_, fun d hd' => ?_, fun j hj hn => ?_, fun j hj t ht => ?_, fun t j ht => ?_⟩
  · rw [hv, if_neg (by omega), hc]; exact h.clk
  · rw [hv, if_neg (by omega), hd]; exact h.dat d hd'
  · by_cases e : j = k
    · subst e; rw [hv, if_pos rfl]; exact h1 hn
    · rw [hv, if_neg (by omega), hr j e]
      exact h.str j hj fun t => by rw [← hh t j e]; exact hn t
  · by_cases e : j = k
    · subst e; rw [hv, if_pos rfl]; exact (h2 t ht).2
    · rw [hv, if_neg (by omega), hr j e]
      exact h.sth j hj t (by rw [← hh t j e]; exact ht)
  · by_cases e : j = k
    · subst e; exact ⟨hk, (h2 t ht).1⟩
    · exact h.hb t j (by rw [← hh t j e]; exact ht)
theorem row_at {x : TX} (hm : x.m = mT) {rows : List Int} {j k : Nat} (hk : k < 3) (h : rows[j]? = some (k : Int)) : x.stripeP (rows.getD j 0) = 2 + (k : Int) := by
  unfold TX.stripeP
  rw [hm, List.getD_eq_getElem?_getD, h]
  exact mT_stripe hk
theorem RowsOk.at {rows : List Int} (h : RowsOk rows) {j : Nat} (hj : j < rows.length) : ∃ k : Nat, k < 3 ∧ rows[j]? = some (k : Int) := by
  obtain ⟨k, hk, e⟩ := h.one rows[j] (List.getElem_mem hj)
  exact ⟨k, hk, by rw [List.getElem?_eq_getElem hj, e]⟩
theorem rows_two {f g : Nat} (hf : f < 4) (hg : g < 4) : RowsOk (rowsL mT [dataP f, dataP g] 3) ∧ (sgm f : Int) ∈ rowsL mT [dataP f, dataP g] 3 ∧ (sgm g : Int) ∈ rowsL mT [dataP f, dataP g] 3 := by
  have key : ∀ l : List Int, l.Nodup → (l.all fun r => decide (0 ≤ r ∧ r < 3)) = true → RowsOk l := fun l h1 h2 => ⟨h1, fun r hr => by
    have := List.all_eq_true.1 h2 r hr
    simp at this
    exact ⟨r.toNat, by omega, by omega⟩⟩
  have h1 : f = 0 ∨ f = 1 ∨ f = 2 ∨ f = 3 := by omega
  have h2 : g = 0 ∨ g = 1 ∨ g = 2 ∨ g = 3 := by omega
  rcases h1 with rfl | rfl | rfl | rfl <;> rcases h2 with rfl | rfl | rfl | rfl <;> exact ⟨key _ (by decide) (by decide), by decide, by decide⟩
theorem WOk.good {u : RU} {W : List (Nat × Int)} (h : WOk u W) : Sole W ∧ (∀ p v, (p, v) ∈ W → heldL u.x.rows (sgm p) = true) ∧ (∀ p v, (p, v) ∈ u.read → heldL u.x.rows (sgm p) = true) ∧ ∀ f : Nat → Int, Good4 f → (∀ p v, (p, v) ∈ u.read → f p = v) → Good4 (appW W f) := by
  cases h with
  | mk f g k vf vg hf hg hfg hp hr hw h1 h2 =>
    refine ⟨fun p v v' ha hb => ?_, fun p v hp => ?_, fun p v hp => ?_, fun F hF hR => ?_⟩
    · simp at ha hb
      rcases ha with ha | ha <;> rcases hb with hb | hb
      · rw [ha.2, hb.2]
      · omega
      · omega
      · rw [ha.2, hb.2]
    · simp at hp
      unfold heldL
      rw [decide_eq_true_iff]
      rcases hp with hp | hp
      · rw [hp.1]; exact h1
      · rw [hp.1]; exact h2
    · rw [hr] at hp
      simp at hp
      unfold heldL
      rw [decide_eq_true_iff]
      rcases hp with hp | hp
      · rw [hp.1]; exact h1
      · rw [hp.1]; exact h2
    · have e1 := hR f vf (by rw [hr]; simp)
      have e2 := hR g vg (by rw [hr]; simp)
      clear hR hr hw h1 h2 hp
      unfold Good4 at *
      have c1 : f = 0 ∨ f = 1 ∨ f = 2 ∨ f = 3 := by omega
      have c2 : g = 0 ∨ g = 1 ∨ g = 2 ∨ g = 3 := by omega
      rcases c1 with rfl | rfl | rfl | rfl <;> rcases c2 with rfl | rfl | rfl | rfl <;> first | exact absurd rfl hfg | (simp only [appW, List.find?, wrap64] at *; simp at *; omega)

end Go.Proofs.Ytjfinnjmcnjciaa

namespace Go.Proofs.Ytjfinnjmcnjciaa
open Go.RowKit

section
variable {ck N : Int} {s : MS} {us : Nat → RU} {A : AS} {H : Int → Nat → Int} {Hc : Nat → Int} {t : Nat}

/-- Aborted in its commit. -/
theorem com_abort {s' : MS} {u' : RU} (h : Sim ck N s us A H Hc) (ht : t < 3) (hz : s'.zs.length = s.zs.length) (hq : ∀ q, s'.vAt q = s.vAt q) (hd : (A.T t).dec = false) (tb : TB ck t u') (busy : u'.busy = true) (job : u'.x.job = 5) (phased : u'.x.phased = true) (rows : RowsOk u'.x.rows)
    (le : u'.x.old.length ≤ u'.x.rows.length) (xi : u'.x.i = 0) (old : OldFrom A.ver u'.x.rows u'.x.old 0) (ha : (A.T t).held = heldL (u'.x.rows.take u'.x.old.length)) (so : SumOk u') : ∃ A H Hc, Sim ck (N + 1) s' (fset us t u') A H Hc := by
  refine ⟨_, _, _, h.quiet ht _ (h.inv.abort t hd) (fun k => rfl) hz (fun q _ => hq q) ?_ (fun hx => ?_)⟩
  · rw [ha]
    have e := RunAt.un (ck := ck) (t := t) (c := A.c) (ver := A.ver) (u := u') tb busy job phased rows le (by rw [xi]; exact Nat.zero_le _) (by rw [xi]; exact old) so
    rw [xi, List.drop_zero] at e
    exact e
  · rcases hx with hx | hx
    · rw [tb.fin] at hx; exact absurd rfl hx
    · rw [phased] at hx; cases hx

theorem phase_has (h : Sim ck N s us A H Hc) (ht : t < 3) : s.has (11 + 2 * (t : Int)) := h.wds.has (by omega) (by omega)
theorem TB.phase {u : RU} (tb : TB ck t u) (ht : t < 3) : u.x.phaseP = 11 + 2 * (t : Int) := by
  unfold TX.phaseP
  rw [tb.m, tb.th]
  exact mT_phase ht
theorem vq_phase (h : Sim ck N s us A H Hc) (ht : t < 3) (v q : Int) (hq : q < 11 ∨ 16 ≤ q ∨ q ≠ 11 + 2 * (t : Int)) : (s.stored (11 + 2 * (t : Int)) v).vAt q = s.vAt q := by
  rw [vq_stored (phase_has h ht), if_neg (by omega)]

/-- A commit with nothing to write: it is decided at once. -/
theorem next_c0r (h : Sim ck N s us A H Hc) (ht : t < 3) (u : RU) (hu : us t = u) (tb : TB ck t u) (busy : u.busy = false) (alive : u.x.alive = true) (job : u.x.job = 0) (ws : u.x.ws = []) (i : u.i = 5) (ha : ∀ k, (A.T t).held k = false) (so : SumOk u) : Next ck N s us t := by
  have hpl := tb.plan.len
  have eask : askC u = (0, { u.x with job := 4, st := 0, i := 0 }) := by
    unfold askC
    rw [if_neg (show ¬ u.i = 0 by omega), if_pos (show u.plan.length < u.i by omega)]
    unfold txCommit
    rw [if_pos ⟨alive, job⟩]
  have e9 : asksR 9 u = { u with x := { u.x with job := 4, st := 0, i := 0 }, busy := true } := by
    rw [asksR_go busy tb.fin]
    unfold askR tookC
    rw [eask]
    exact asksR_busy 8 rfl
  unfold Next
  rw [hu, nextR_asks tb.fin e9 tb.fin]
  generalize hx : ({ u.x with job := 4, st := 0, i := 0 } : TX) = x
  have f1 : x.job = 4 := by subst hx; rfl
  have f2 : x.st = 0 := by subst hx; rfl
  have f3 : x.ws = [] := by subst hx; exact ws
  have f4 : x.rs = u.x.rs := by subst hx; rfl
  have f7 : x.stamp = u.x.stamp := by subst hx; rfl
  have f6 : x.m = mT ∧ x.th = (t : Int) ∧ x.ck = ck ∧ x.top = 1000 ∧ x.mr = 32 ∧ x.mw = 32 ∧ x.wt = [] := by subst hx; exact ⟨tb.m, tb.th, tb.ckk, tb.top, tb.mr, tb.mw, tb.wt⟩
  clear hx eask e9
  obtain ⟨m1, m2, m3, m4, m5, m6, m7⟩ := f6
  have f5 : x.phaseP = 11 + 2 * (t : Int) := by unfold TX.phaseP; rw [m1, m2]; exact mT_phase ht
  have e := stC0r (s := s) f2 f3 m7
  rw [f5] at e
  rw [stepR_busy (by show txStep s x = _; rw [step_com f1]; exact e)]
  show ∃ A H Hc, Sim ck (N + 1) (txStep s x).2.2 _ A H Hc
  rw [step_com f1, e]
  refine ⟨_, _, _, h.quiet ht idleT (idle_inv h ha) (fun k => by rw [ha]; rfl) (len_stored _ _ _) (fun q hq => vq_phase h ht _ q hq) (.en ⟨m1, m2, m3, m4, m5, m6, m7, tb.plan, tb.rd, ?_, tb.fin, by show 0 ≤ x.stamp; rw [f7]; exact tb.sp⟩ rfl f1 rfl i so) (fun hx => ?_)⟩
  · show RsOk x.rs u.read
    rw [f4]; exact tb.rs
  · rcases hx with hx | hx
    · exact absurd tb.fin hx
    · cases hx

/-- The end of a commit. -/
theorem next_en (h : Sim ck N s us A H Hc) (ht : t < 3) (u : RU) (hu : us t = u) (tb : TB ck t u) (busy : u.busy = true) (job : u.x.job = 4) (st : u.x.st = 8) (i : u.i = 5) (so : SumOk u) (ha : ∀ k, (A.T t).held k = false) : Next ck N s us t := by
  have hpl := tb.plan.len
  have e := stC8 (s := s) st
  rw [tb.phase ht] at e
  unfold Next
  rw [hu, nextR_busy busy tb.fin, stepR_done (by rw [step_com job]; exact e), doneR_end (by show u.plan.length < u.i; omega), step_com job, e]
  exact ⟨_, _, _, h.quiet ht idleT (idle_inv h ha) (fun k => by rw [ha]; rfl) (len_stored _ _ _) (fun q hq => vq_phase h ht _ q hq) (.over (by show (1 : Int) ≠ 0; decide) so) (fun _ => by rw [vq_stored (phase_has h ht), if_pos rfl])⟩

/-- A stripe is looked at, to be taken. -/
theorem next_lk1 (h : Sim ck N s us A H Hc) (ht : t < 3) (u : RU) (hu : us t = u) (W : List (Nat × Int)) (cb : CB ck t A.ver u W) (sure : u.x.sure = false) (xi : u.x.i = u.x.old.length) (lt : u.x.old.length < u.x.rows.length) (old : OldFrom A.ver u.x.rows u.x.old 0) (st : u.x.st = 1)
    (ha : A.T t = comT u.x.stamp u.read (heldL (u.x.rows.take u.x.old.length)) none none) : Next ck N s us t := by
  have tb := cb.tb
  obtain ⟨k, hk, hrow⟩ := cb.rows.at lt
  have hrp : u.x.stripeP (u.x.rows.getD u.x.i 0) = 2 + (k : Int) := by rw [xi]; exact row_at tb.m hk hrow
  unfold Next
  rw [hu, nextR_busy cb.busy tb.fin, step_com cb.job]
  by_cases hh : 0 ≤ holF (s.vAt (2 + (k : Int)))
  · have e := stC1n st hrp hh cb.phased
    rw [stepR_busy (by rw [step_com cb.job]; exact e), e]
    exact com_abort h ht (len_loaded _ _) (fun q => vq_loaded _ _ _) (by rw [ha]; rfl) ⟨tb.m, tb.th, tb.ckk, tb.top, tb.mr, tb.mw, tb.wt, tb.plan, tb.rd, tb.rs, tb.fin, tb.sp⟩ cb.busy rfl cb.phased cb.rows (Nat.le_of_lt lt) rfl old (by rw [ha]; rfl) cb.w.sum
  · have e := stC1y st hrp hh
    rw [stepR_busy (by rw [step_com cb.job]; exact e), e]
    have inv : AInv sgm Good4 H Hc (A.upd t (comT u.x.stamp u.read (heldL (u.x.rows.take u.x.old.length)) none none)) := by
      rw [← ha]
      have : A.upd t (A.T t) = A := by
        obtain ⟨c, ver, d, T⟩ := A
        unfold AS.upd
        congr
        funext j
        by_cases e : j = t
        · subst e; exact fset_at _ _ _
        · exact fset_ne _ _ e
      rw [this]
      exact h.inv
    refine ⟨_, _, _, h.quiet ht _ inv (fun k => by rw [ha]) (len_loaded _ _) (fun q _ => vq_loaded _ _ _) (.lk W ⟨⟨tb.m, tb.th, tb.ckk, tb.top, tb.mr, tb.mw, tb.wt, tb.plan, tb.rd, tb.rs, tb.fin, tb.sp⟩, cb.busy, cb.alive, cb.phased, cb.job, cb.i, ?_, cb.rows⟩ sure xi lt old (.inr ⟨rfl, ?_⟩)) (fun hx => ?_)⟩
    · cases cb.w with
      | mk f g k vf vg hf hg hfg hp hr hw h1 h2 => exact .mk f g k vf vg hf hg hfg hp hr hw h1 h2
    · show s.vAt (2 + (k : Int)) % 16 = 0
      exact hol_free.1 (by omega)
    · rcases hx with hx | hx
      · exact absurd tb.fin hx
      · exact absurd cb.phased (by rw [show u.x.phased = false from hx]; decide)

theorem upd_self (A : AS) (t : Nat) : A.upd t (A.T t) = A := by
  obtain ⟨c, ver, d, T⟩ := A
  unfold AS.upd
  congr
  funext j
  by_cases e : j = t
  · subst e; exact fset_at _ _ _
  · exact fset_ne _ _ e
theorem WOk.turn {u u' : RU} {W : List (Nat × Int)} (h : WOk u W) (h1 : u'.plan = u.plan) (h2 : u'.read = u.read) (h3 : u'.x.ws = u.x.ws) (h4 : u'.x.rows = u.x.rows) : WOk u' W := by
  cases h with
  | mk f g k vf vg hf hg hfg hp hr hw k1 k2 => exact .mk f g k vf vg hf hg hfg (h1.trans hp) (h2.trans hr) (h3.trans hw) (by rw [h4]; exact k1) (by rw [h4]; exact k2)
theorem not_fin {u' : RU} {P : Prop} (h1 : u'.fin = 0) (h2 : u'.x.phased = true) : u'.fin ≠ 0 ∨ u'.x.phased = false → P := fun hx => by
  rcases hx with hx | hx
  · exact absurd h1 hx
  · rw [h2] at hx; cases hx

/-- A stripe is taken, or it is not as it was. -/
theorem next_lk2 (h : Sim ck N s us A H Hc) (ht : t < 3) (hck : ck = 1 ∨ ck = 2) (u : RU) (hu : us t = u) (W : List (Nat × Int)) (cb : CB ck t A.ver u W) (sure : u.x.sure = false) (xi : u.x.i = u.x.old.length) (lt : u.x.old.length < u.x.rows.length) (old : OldFrom A.ver u.x.rows u.x.old 0) (st : u.x.st = 2) (pre : u.x.pre % 16 = 0)
    (ha : A.T t = comT u.x.stamp u.read (heldL (u.x.rows.take u.x.old.length)) none none) : Next ck N s us t := by
  have tb := cb.tb
  obtain ⟨k, hk, hrow⟩ := cb.rows.at lt
  have hrp : u.x.stripeP (u.x.rows.getD u.x.i 0) = 2 + (k : Int) := by rw [xi]; exact row_at tb.m hk hrow
  have hhas : s.has (2 + (k : Int)) := h.wds.has (by omega) (by omega)
  unfold Next
  rw [hu, nextR_busy cb.busy tb.fin, step_com cb.job]
  cases hh : s.okAt (2 + (k : Int)) u.x.pre with
  | false =>
    have e := stC2n st hrp hh cb.phased
    rw [stepR_busy (by rw [step_com cb.job]; exact e), e]
    refine com_abort h ht (len_swapped _ _ _ _) (fun q => ?_) (by rw [ha]; rfl) ⟨tb.m, tb.th, tb.ckk, tb.top, tb.mr, tb.mw, tb.wt, tb.plan, tb.rd, tb.rs, tb.fin, tb.sp⟩ cb.busy rfl cb.phased cb.rows (Nat.le_of_lt lt) rfl old (by rw [ha]; rfl) cb.w.sum
    rw [vq_swap hhas, if_neg]
    rw [ok_iff hhas] at hh
    simp at hh
    exact fun h => hh h.1
  | true =>
    have hw : s.vAt (2 + (k : Int)) = u.x.pre := by rw [ok_iff hhas] at hh; simpa using hh
    obtain ⟨hn, hver⟩ := h.wds.free hk (by rw [hw]; exact pre)
    have hpv : u.x.pre = A.ver k * 16 := by rw [← hw]; exact hver
    have inv := h.inv.lock t k (by rw [ha]; rfl) (by rw [ha]; rfl) hn
    have hA : ({ A.T t with held := fset (A.T t).held k true } : AT) = comT u.x.stamp u.read (heldL (u.x.rows.take (u.x.old.length + 1))) none none := by
      rw [ha]
      show (⟨true, u.x.stamp, u.read, none, none, fset (heldL (u.x.rows.take u.x.old.length)) k true, none, none, false, []⟩ : AT) = _
      rw [heldL_take hrow]
      rfl
    rw [hA] at inv
    have e0 : (A.upd t (comT u.x.stamp u.read (heldL (u.x.rows.take (u.x.old.length + 1))) none none)).T t = comT u.x.stamp u.read (heldL (u.x.rows.take (u.x.old.length + 1))) none none := A.upd_at t _
    have hheld : ∀ j, heldL (u.x.rows.take (u.x.old.length + 1)) j = if j = k then true else (A.T t).held j := fun j => by
      rw [← heldL_take hrow, ha]
      rfl
    have hlen : (u.x.old ++ [u.x.pre]).length = u.x.old.length + 1 := by rw [List.length_append, List.length_singleton]
    have hold : OldFrom A.ver u.x.rows (u.x.old ++ [u.x.pre]) 0 := fun j k' h0 hj hk' => by
      rw [hlen] at hj
      by_cases e : j < u.x.old.length
      · rw [List.getElem?_append_left e]; exact old j k' h0 e hk'
      · obtain rfl : j = u.x.old.length := by omega
        rw [hrow] at hk'
        have : k = k' := by simp at hk'; omega
        subst this
        rw [List.getElem?_append_right (Nat.le_refl _), Nat.sub_self, ← hpv]
        rfl
    have wds : Wds (s.swapped (2 + (k : Int)) u.x.pre (takeF u.x.pre u.x.th)) (A.upd t (comT u.x.stamp u.read (heldL (u.x.rows.take (u.x.old.length + 1))) none none)) := by
      refine h.wds.word (takeF u.x.pre u.x.th) (len_swapped _ _ _ _) (fun q => ?_) hk rfl rfl (fun _ _ => rfl) (fun t' j hj => ?_) (fun hx => ?_) (fun t' hx => ?_)
      · rw [vq_swap hhas]
        by_cases hq : q = 2 + (k : Int)
        · rw [if_pos ⟨hw, hq⟩, if_pos hq]
        · rw [if_neg (fun h => hq h.2), if_neg hq]
      · by_cases e : t' = t
        · subst e; rw [e0]; show heldL _ j = _; rw [hheld, if_neg hj]
        · rw [A.upd_ne _ e]
      · have := hx t
        rw [e0] at this
        have this : heldL (u.x.rows.take (u.x.old.length + 1)) k = false := this
        rw [hheld, if_pos rfl] at this
        cases this
      · by_cases e : t' = t
        · subst e
          refine ⟨ht, ?_⟩
          rw [tb.th, take_free pre ht, hpv]
          rfl
        · rw [A.upd_ne _ e, hn t'] at hx; cases hx
    have hph : ∀ j : Nat, j < 3 → j ≠ t → (s.swapped (2 + (k : Int)) u.x.pre (takeF u.x.pre u.x.th)).vAt (11 + 2 * (j : Int)) = s.vAt (11 + 2 * (j : Int)) := fun j _ _ => by
      rw [vq_swap hhas, if_neg (fun h => by have := h.2; omega)]
    by_cases hi : u.x.i + 1 = u.x.rows.length
    · have e := stC2last st hrp hh hi
      rw [stepR_busy (by rw [step_com cb.job]; exact e), e]
      refine ⟨_, _, _, h.turn ht inv wds ?_ (fun j hj => A.upd_ne _ hj) (Int.le_refl _) (by show A.c ≤ A.c + 1; omega) (fun k => .inl rfl) hph (not_fin tb.fin cb.phased)⟩
      rw [e0, show u.x.old.length + 1 = u.x.rows.length by omega, List.take_length]
      refine .bp W none ⟨⟨tb.m, tb.th, tb.ckk, tb.top, tb.mr, tb.mw, tb.wt, tb.plan, tb.rd, tb.rs, tb.fin, tb.sp⟩, cb.busy, cb.alive, cb.phased, cb.job, cb.i, cb.w.turn rfl rfl rfl rfl, cb.rows⟩ sure ?_ hold rfl (.inl ⟨rfl, ?_⟩)
      · show (u.x.old ++ [u.x.pre]).length = u.x.rows.length
        rw [hlen]; omega
      · show ck = 1 ∧ startB u.x.ck = ⟨1, 0, 0, 0⟩ ∨ ck = 2 ∧ startB u.x.ck = ⟨2, 0, 0, 0⟩
        rw [tb.ckk]
        rcases hck with rfl | rfl
        · exact .inl ⟨rfl, rfl⟩
        · exact .inr ⟨rfl, rfl⟩
    · have e := stC2more st hrp hh hi
      rw [stepR_busy (by rw [step_com cb.job]; exact e), e]
      refine ⟨_, _, _, h.turn ht inv wds ?_ (fun j hj => A.upd_ne _ hj) (Int.le_refl _) (by show A.c ≤ A.c + 1; omega) (fun k => .inl rfl) hph (not_fin tb.fin cb.phased)⟩
      rw [e0]
      have e3 := RunAt.lk (ck := ck) (t := t) (c := A.c) (ver := A.ver) (u := { u with x := { u.x with old := u.x.old ++ [u.x.pre], i := u.x.i + 1, st := 1 } }) W ⟨⟨tb.m, tb.th, tb.ckk, tb.top, tb.mr, tb.mw, tb.wt, tb.plan, tb.rd, tb.rs, tb.fin, tb.sp⟩, cb.busy, cb.alive, cb.phased, cb.job, cb.i, cb.w.turn rfl rfl rfl rfl, cb.rows⟩ sure
        (by show u.x.i + 1 = (u.x.old ++ [u.x.pre]).length; rw [hlen, xi]) (by show (u.x.old ++ [u.x.pre]).length < u.x.rows.length; rw [hlen]; omega) hold (.inl rfl)
      have e4 : ({ u with x := { u.x with old := u.x.old ++ [u.x.pre], i := u.x.i + 1, st := 1 } } : RU).x.old.length = u.x.old.length + 1 := hlen
      rw [e4] at e3
      exact e3
end

end Go.Proofs.Ytjfinnjmcnjciaa

namespace Go.Proofs.Ytjfinnjmcnjciaa
open Go.RowKit

theorem bump1 {s : MS} {x p : Int} : bumpF mT s ⟨1, 0, x, p⟩ = (⟨1, 9, x, wrap64 (s.vAt 0 + 1)⟩, s.added 0 1) := by
  unfold bumpF drawF
  rw [if_pos mT_ok, if_pos rfl, if_pos rfl, mT_clock]
theorem bump2 {s : MS} {x p : Int} : bumpF mT s ⟨2, 0, x, p⟩ = (⟨2, 1, s.vAt 0, p⟩, s.loaded 0) := by
  unfold bumpF midF lookF
  rw [if_pos mT_ok, if_neg (show ¬ ((2 : Int) = 1) by decide), if_pos rfl, if_pos rfl, if_neg (fun h => absurd h.1 (show ¬ ((2 : Int) = 3) by decide)), mT_clock]
theorem bump3 {s : MS} {x p : Int} : bumpF mT s ⟨2, 1, x, p⟩ = (if s.okAt 0 x = true then ⟨2, 9, x, wrap64 (x + 1)⟩ else ⟨2, 9, x, s.vAt 0⟩, s.swapped 0 x (wrap64 (x + 1))) := by
  unfold bumpF midF putF
  rw [if_pos mT_ok, if_neg (show ¬ ((2 : Int) = 1) by decide), if_pos rfl, if_neg (show ¬ ((1 : Int) = 0) by decide), if_pos rfl, if_neg (show ¬ ((2 : Int) = 3) by decide), mT_clock]

theorem upd_upd (A : AS) (t : Nat) (x y : AT) : (A.upd t x).upd t y = A.upd t y := by
  have e : fset (fset A.T t x) t y = fset A.T t y := funext fun j => by
    unfold fset
    by_cases h : j = t
    · rw [if_pos h, if_pos h]
    · rw [if_neg h, if_neg h, if_neg h]
  show ({ A with T := fset (fset A.T t x) t y } : AS) = { A with T := fset A.T t y }
  rw [e]
/-- The clock's word turns. -/
theorem Wds.clock {s s' : MS} {A A' : AS} (h : Wds s A) (hz : s'.zs.length = s.zs.length) (hv : ∀ q, s'.vAt q = if q = 0 then A'.c else s.vAt q) (hd : A'.d = A.d) (hr : A'.ver = A.ver) (hh : ∀ t j, (A'.T t).held j = (A.T t).held j) : Wds s' A' :=
  ⟨hz.trans h.len, by rw [hv, if_pos rfl], fun d hd' => by rw [hv, if_neg (by omega), hd]; exact h.dat d hd',
    fun k hk hn => by rw [hv, if_neg (by omega), hr]; exact h.str k hk fun t => by rw [← hh]; exact hn t,
    fun k hk t ht => by rw [hv, if_neg (by omega), hr]; exact h.sth k hk t (by rw [← hh]; exact ht), fun t k ht => h.hb t k (by rw [← hh]; exact ht)⟩
/-- A word of data turns. -/
theorem Wds.data {s s' : MS} {A A' : AS} (h : Wds s A) {p : Nat} (v : Int) (hz : s'.zs.length = s.zs.length) (hv : ∀ q, s'.vAt q = if q = 26 + 2 * (p : Int) then v else s.vAt q) (hc : A'.c = A.c) (hd : A'.d = fset A.d p v) (hr : A'.ver = A.ver) (hh : ∀ t j, (A'.T t).held j = (A.T t).held j) : Wds s' A' := by
  refine ⟨hz.trans h.len, by rw [hv, if_neg (by omega), hc]; exact h.clk, fun d hd' => ?_,
    fun k hk hn => by rw [hv, if_neg (by omega), hr]; exact h.str k hk fun t => by rw [← hh]; exact hn t,
    fun k hk t ht => by rw [hv, if_neg (by omega), hr]; exact h.sth k hk t (by rw [← hh]; exact ht), fun t k ht => h.hb t k (by rw [← hh]; exact ht)⟩
  rw [hv, hd]
  by_cases e : d = p
  · subst e; rw [if_pos rfl, fset_at]
  · rw [if_neg (by omega), fset_ne _ _ e]; exact h.dat d hd'

section
variable {ck N : Int} {s : MS} {us : Nat → RU} {A : AS} {H : Int → Nat → Int} {Hc : Nat → Int} {t : Nat}

theorem decide_run {A1 : AS} {S m : Int} {q : Option Int} {u : RU} {W : List (Nat × Int)} (inv : AInv sgm Good4 H Hc A1) (ha : A1.T t = comT S u.read (heldL u.x.rows) q (some m)) (w : WOk u W) (hv : ∀ p v, (p, v) ∈ u.read → A1.ver (sgm p) ≤ S) :
    ∃ H' Hc', AInv sgm Good4 H' Hc' (A1.upd t (decT S u.read (heldL u.x.rows) q (some m) W)) := by
  obtain ⟨w1, w2, w3, w4⟩ := w.good
  have inv2 := inv.decide t m W (by rw [ha]; rfl) (by rw [ha]; rfl) (fun p v hp => by rw [ha]; exact w2 p v hp) w1 (fun p v hp => by rw [ha] at hp ⊢; exact ⟨w3 p v hp, hv p v hp⟩) (fun f hf hR => w4 f hf fun p v hp => hR p v (by rw [ha]; exact hp))
  rw [ha] at inv2
  exact ⟨_, _, inv2⟩
theorem WOk.two {u : RU} {W : List (Nat × Int)} (h : WOk u W) : u.read.length = 2 ∧ u.x.ws.length = 2 ∧ u.x.rows ≠ [] ∧ W.length = 2 := by
  cases h with
  | mk f g k vf vg hf hg hfg hp hr hw h1 h2 => exact ⟨by rw [hr]; rfl, by rw [hw]; rfl, (fun e => by rw [e] at h1; cases h1), rfl⟩

/-- The clock goes on. -/
theorem next_bp (h : Sim ck N s us A H Hc) (ht : t < 3) (hN : N ≤ 900) (u : RU) (hu : us t = u) (W : List (Nat × Int)) (q : Option Int) (cb : CB ck t A.ver u W) (sure : u.x.sure = false) (full : u.x.old.length = u.x.rows.length) (old : OldFrom A.ver u.x.rows u.x.old 0) (st : u.x.st = 3)
    (bump : q = none ∧ (ck = 1 ∧ u.x.bump = ⟨1, 0, 0, 0⟩ ∨ ck = 2 ∧ u.x.bump = ⟨2, 0, 0, 0⟩) ∨ ∃ seen, seen ≤ A.c ∧ q = some (seen + 1) ∧ u.x.bump = ⟨2, 1, seen, 0⟩)
    (ha : A.T t = comT u.x.stamp u.read (heldL u.x.rows) q none) : Next ck N s us t := by
  have tb := cb.tb
  have h0 := h.c0
  have hcN := h.cN
  have hclk := h.wds.clk
  have hhas : s.has 0 := h.wds.has (by decide) (by decide)
  obtain ⟨r2, w2, rne, _⟩ := cb.w.two
  have hrs : u.x.rs ≠ [] := tb.rs.ne (fun e => by rw [e] at r2; cases r2)
  have hws : u.x.ws ≠ [] := fun e => by rw [e] at w2; cases w2
  have hd : (A.T t).dec = false := by rw [ha]; rfl
  have hS : u.x.stamp ≤ A.c := by have := h.inv.stamp t (by rw [ha]; rfl); rw [ha] at this; exact this
  have hrl : 0 < u.x.rs.length := List.length_pos_iff.2 hrs
  -- what follows where the clock has gone on by one, and is looked through then
  have go : ∀ (b : BD) (s2 : MS), bumpF u.x.m s u.x.bump = (b, s2) → b.s = 9 → b.p = A.c + 1 → (∀ q, s2.vAt q = if q = 0 then A.c + 1 else s.vAt q) → s2.zs.length = s.zs.length → Next ck N s us t := by
    intro b s2 hb h9 hp hv2 hz2
    unfold Next
    rw [hu, nextR_busy cb.busy tb.fin, step_com cb.job]
    have inv := h.inv.bump t hd
    have hA : ({ A.T t with q := some (A.c + 1), M := some (A.c + 1) } : AT) = comT u.x.stamp u.read (heldL u.x.rows) (some (A.c + 1)) (some (A.c + 1)) := by rw [ha]; rfl
    rw [hA] at inv
    have e0 : (({ A with c := A.c + 1 } : AS).upd t (comT u.x.stamp u.read (heldL u.x.rows) (some (A.c + 1)) (some (A.c + 1)))).T t = comT u.x.stamp u.read (heldL u.x.rows) (some (A.c + 1)) (some (A.c + 1)) := AS.upd_at _ t _
    have htop : ¬ u.x.top < b.p := by rw [tb.top, hp]; omega
    have hheld : ∀ (a : AT), a.held = heldL u.x.rows → ∀ t' j, ((({ A with c := A.c + 1 } : AS).upd t a).T t').held j = (A.T t').held j := fun a hx t' j => by
      by_cases e : t' = t
      · subst e; rw [AS.upd_at, hx, ha]; rfl
      · rw [AS.upd_ne _ _ e]
    have hph : ∀ j : Nat, j < 3 → j ≠ t → s2.vAt (11 + 2 * (j : Int)) = s.vAt (11 + 2 * (j : Int)) := fun j _ _ => by rw [hv2, if_neg (by omega)]
    by_cases ho : b.k = 1 ∧ b.p = wrap64 (u.x.stamp + 1)
    · have e := stC3own st hb h9 htop ho tb.wt hws
      rw [stepR_busy (by rw [step_com cb.job]; exact e), e]
      have hown : u.x.stamp = A.c := by
        have h1 := ho.2
        have h2 := tb.sp
        rw [hp] at h1
        unfold wrap64 at h1
        omega
      obtain ⟨H', Hc', inv2⟩ := decide_run inv e0 cb.w (fun p v _ => by rw [hown]; exact h.inv.verc _)
      have e2 : (({ A with c := A.c + 1 } : AS).upd t (comT u.x.stamp u.read (heldL u.x.rows) (some (A.c + 1)) (some (A.c + 1)))).upd t (decT u.x.stamp u.read (heldL u.x.rows) (some (A.c + 1)) (some (A.c + 1)) W) = ({ A with c := A.c + 1 } : AS).upd t (decT u.x.stamp u.read (heldL u.x.rows) (some (A.c + 1)) (some (A.c + 1)) W) := upd_upd _ _ _ _
      rw [e2] at inv2
      refine ⟨_, _, _, h.turn ht inv2 (h.wds.clock hz2 hv2 rfl rfl (hheld _ rfl)) ?_ (fun j hj => AS.upd_ne _ _ hj) (by show A.c ≤ A.c + 1; omega) (Int.le_refl _) (fun k => .inl rfl) hph (not_fin tb.fin cb.phased)⟩
      rw [AS.upd_at]
      have e3 := RunAt.wr (ck := ck) (t := t) (c := A.c + 1) (ver := A.ver) (u := { u with x := { u.x with bump := b, made := b.p, i := 0, st := 6, sure := true } }) W (some (A.c + 1)) u.x.stamp ⟨⟨tb.m, tb.th, tb.ckk, tb.top, tb.mr, tb.mw, tb.wt, tb.plan, tb.rd, tb.rs, tb.fin, tb.sp⟩, cb.busy, cb.alive, cb.phased, cb.job, cb.i, cb.w.turn rfl rfl rfl rfl, cb.rows⟩ rfl (by show 0 < 2; decide) (by show b.p ≤ 1000; omega) rne
      have e4 : ({ u with x := { u.x with bump := b, made := b.p, i := 0, st := 6, sure := true } } : RU).x.made = A.c + 1 := hp
      rw [e4] at e3
      exact e3
    · have e := stC3check st hb h9 htop ho hrs
      rw [stepR_busy (by rw [step_com cb.job]; exact e), e]
      refine ⟨_, _, _, h.turn ht inv (h.wds.clock hz2 hv2 rfl rfl (hheld _ rfl)) ?_ (fun j hj => AS.upd_ne _ _ hj) (by show A.c ≤ A.c + 1; omega) (Int.le_refl _) (fun k => .inl rfl) hph (not_fin tb.fin cb.phased)⟩
      rw [e0]
      have e3 := RunAt.ckd (ck := ck) (t := t) (c := A.c + 1) (ver := A.ver) (u := { u with x := { u.x with bump := b, made := b.p, i := 0, st := 4 } }) W (some (A.c + 1)) ⟨⟨tb.m, tb.th, tb.ckk, tb.top, tb.mr, tb.mw, tb.wt, tb.plan, tb.rd, tb.rs, tb.fin, tb.sp⟩, cb.busy, cb.alive, cb.phased, cb.job, cb.i, cb.w.turn rfl rfl rfl rfl, cb.rows⟩ sure full old rfl hrl (by show b.p ≤ 1000; omega) (fun j k v hj => absurd hj (Nat.not_lt_zero _))
      have e4 : ({ u with x := { u.x with bump := b, made := b.p, i := 0, st := 4 } } : RU).x.made = A.c + 1 := hp
      rw [e4] at e3
      exact e3
  rcases bump with ⟨rfl, ⟨_, hb⟩ | ⟨hck, hb⟩⟩ | ⟨seen, hsn, rfl, hb⟩
  · have hb1 : bumpF u.x.m s u.x.bump = (⟨1, 9, 0, wrap64 (s.vAt 0 + 1)⟩, s.added 0 1) := by rw [tb.m, hb]; exact bump1
    have hw : wrap64 (A.c + 1) = A.c + 1 := by unfold wrap64; omega
    rw [hclk, hw] at hb1
    exact go _ _ hb1 rfl rfl (fun q => by rw [vq_added hhas, hclk, hw]) (len_added _ _ _)
  · have hb1 : bumpF u.x.m s u.x.bump = (⟨2, 1, s.vAt 0, 0⟩, s.loaded 0) := by rw [tb.m, hb]; exact bump2
    rw [hclk] at hb1
    have e := stC3more st hb1 (show (1 : Int) ≠ 9 by decide)
    unfold Next
    rw [hu, nextR_busy cb.busy tb.fin, step_com cb.job, stepR_busy (by rw [step_com cb.job]; exact e), e]
    have inv := h.inv.see t hd (by rw [ha]; rfl)
    have hA : ({ A.T t with q := some (A.c + 1) } : AT) = comT u.x.stamp u.read (heldL u.x.rows) (some (A.c + 1)) none := by rw [ha]; rfl
    rw [hA] at inv
    exact ⟨_, _, _, h.quiet ht _ inv (fun k => by rw [ha]; rfl) (len_loaded _ _) (fun q _ => vq_loaded _ _ _) (.bp W (some (A.c + 1)) ⟨⟨tb.m, tb.th, tb.ckk, tb.top, tb.mr, tb.mw, tb.wt, tb.plan, tb.rd, tb.rs, tb.fin, tb.sp⟩, cb.busy, cb.alive, cb.phased, cb.job, cb.i, cb.w.turn rfl rfl rfl rfl, cb.rows⟩ sure full old st (.inr ⟨A.c, Int.le_refl _, rfl, rfl⟩)) (not_fin tb.fin cb.phased)⟩
  · have hb1 : bumpF u.x.m s u.x.bump = (if s.okAt 0 seen = true then ⟨2, 9, seen, wrap64 (seen + 1)⟩ else ⟨2, 9, seen, s.vAt 0⟩, s.swapped 0 seen (wrap64 (seen + 1))) := by rw [tb.m, hb]; exact bump3
    rw [ok_iff hhas, hclk] at hb1
    by_cases hs : A.c = seen
    · subst hs
      have hw : wrap64 (A.c + 1) = A.c + 1 := by unfold wrap64; omega
      rw [if_pos (by simp), hw] at hb1
      refine go _ _ hb1 rfl rfl (fun q => ?_) (len_swapped _ _ _ _)
      rw [vq_swap hhas, hclk]
      by_cases hq : q = 0
      · rw [if_pos ⟨rfl, hq⟩, if_pos hq]
      · rw [if_neg (fun h => hq h.2), if_neg hq]
    · rw [if_neg (by simpa using hs)] at hb1
      have hv2 : ∀ q, (s.swapped 0 seen (wrap64 (seen + 1))).vAt q = s.vAt q := fun q => by rw [vq_swap hhas, hclk, if_neg (fun h => hs h.1)]
      have e := stC3check st hb1 rfl (by rw [tb.top]; show ¬ 1000 < A.c; omega) (fun hx => absurd hx.1 (show ¬ ((2 : Int) = 1) by decide)) hrs
      unfold Next
      rw [hu, nextR_busy cb.busy tb.fin, step_com cb.job, stepR_busy (by rw [step_com cb.job]; exact e), e]
      have inv := h.inv.adopt t (seen + 1) hd (by rw [ha]; rfl) (by omega)
      have hA : ({ A.T t with M := some A.c } : AT) = comT u.x.stamp u.read (heldL u.x.rows) (some (seen + 1)) (some A.c) := by rw [ha]; rfl
      rw [hA] at inv
      refine ⟨_, _, _, h.quiet ht _ inv (fun k => by rw [ha]; rfl) (len_swapped _ _ _ _) (fun q _ => hv2 q) ?_ (not_fin tb.fin cb.phased)⟩
      exact .ckd W (some (seen + 1)) ⟨⟨tb.m, tb.th, tb.ckk, tb.top, tb.mr, tb.mw, tb.wt, tb.plan, tb.rd, tb.rs, tb.fin, tb.sp⟩, cb.busy, cb.alive, cb.phased, cb.job, cb.i, cb.w.turn rfl rfl rfl rfl, cb.rows⟩ sure full old rfl hrl (by show A.c ≤ 1000; omega) (fun j k v hj => absurd hj (Nat.not_lt_zero _))
end

end Go.Proofs.Ytjfinnjmcnjciaa

namespace Go.Proofs.Ytjfinnjmcnjciaa
open Go.RowKit

theorem hasL_idx {rs : List Wd} {k : Int} (h : hasL rs k = true) : ∃ (j : Nat) (v : Int), j < rs.length ∧ rs[j]? = some (k, v) := by
  obtain ⟨p, hp, hx⟩ := List.any_eq_true.1 h
  obtain ⟨j, hj⟩ := List.mem_iff_getElem?.1 hp
  have he : p.1 = k := by simpa using hx
  exact ⟨j, p.2, (List.getElem?_eq_some_iff.1 hj).1, by rw [hj, ← he]⟩

section
variable {ck N : Int} {s : MS} {us : Nat → RU} {A : AS} {H : Int → Nat → Int} {Hc : Nat → Int} {t : Nat}

/-- A stripe that was read is looked at once more. -/
theorem next_ckd (h : Sim ck N s us A H Hc) (ht : t < 3) (u : RU) (hu : us t = u) (W : List (Nat × Int)) (q : Option Int) (cb : CB ck t A.ver u W) (sure : u.x.sure = false) (full : u.x.old.length = u.x.rows.length) (old : OldFrom A.ver u.x.rows u.x.old 0) (st : u.x.st = 4) (lt : u.x.i < u.x.rs.length) (top : u.x.made ≤ 1000)
    (val : ∀ (j k : Nat) (v : Int), j < u.x.i → u.x.rs[j]? = some ((k : Int), v) → heldL u.x.rows k = true → A.ver k ≤ u.x.stamp)
    (ha : A.T t = comT u.x.stamp u.read (heldL u.x.rows) q (some u.x.made)) : Next ck N s us t := by
  have tb := cb.tb
  obtain ⟨r2, w2, rne, _⟩ := cb.w.two
  have hws : u.x.ws ≠ [] := fun e => by rw [e] at w2; cases w2
  obtain ⟨k, hk, hrow⟩ := tb.rs.one u.x.rs[u.x.i] (List.getElem_mem lt)
  have hrs : u.x.rs[u.x.i]? = some ((k : Int), u.x.rs[u.x.i].2) := by rw [List.getElem?_eq_getElem lt, ← hrow]
  have hrp : u.x.stripeP (u.x.rs.getD u.x.i (0, 0)).1 = 2 + (k : Int) := by
    unfold TX.stripeP
    rw [tb.m, List.getD_eq_getElem?_getD, hrs]
    exact mT_stripe hk
  have hheld : heldL (u.x.rows.take u.x.old.length) = heldL u.x.rows := by rw [full, List.take_length]
  unfold Next
  rw [hu, nextR_busy cb.busy tb.fin, step_com cb.job]
  have ab : ∀ {c : Int}, stCommit s u.x = (0, { u.x with cause := c, made := 0, alive := false, job := 5, st := 0, i := 0 }, s.loaded (2 + (k : Int))) → ∃ A H Hc, Sim ck (N + 1) (stepR s u, (stCommit s u.x).2.2).2 (fset us t (stepR s u, (stCommit s u.x).2.2).1) A H Hc := fun {c} e => by
    rw [stepR_busy (by rw [step_com cb.job]; exact e), e]
    exact com_abort h ht (len_loaded _ _) (fun q => vq_loaded _ _ _) (by rw [ha]; rfl) ⟨tb.m, tb.th, tb.ckk, tb.top, tb.mr, tb.mw, tb.wt, tb.plan, tb.rd, tb.rs, tb.fin, tb.sp⟩ cb.busy rfl cb.phased cb.rows (Nat.le_of_eq full) rfl old (by show (A.T t).held = heldL (u.x.rows.take u.x.old.length); rw [hheld, ha]; rfl) cb.w.sum
  by_cases hh : 0 ≤ holF (s.vAt (2 + (k : Int))) ∧ holF (s.vAt (2 + (k : Int))) ≠ u.x.th
  · exact ab (stC4held st hrp hh cb.phased)
  by_cases hv : u.x.stamp < verF (s.vAt (2 + (k : Int)))
  · exact ab (stC4stale st hrp hh hv cb.phased)
  have hthis : heldL u.x.rows k = true → A.ver k ≤ u.x.stamp := fun hx => by
    have h1 := h.wds.sth k hk t (by rw [ha]; exact hx)
    rw [h1] at hv
    unfold verF at hv
    omega
  have hval : ∀ (j k' : Nat) (v : Int), j < u.x.i + 1 → u.x.rs[j]? = some ((k' : Int), v) → heldL u.x.rows k' = true → A.ver k' ≤ u.x.stamp := fun j k' v hj hr hx => by
    by_cases e : j < u.x.i
    · exact val j k' v e hr hx
    · obtain rfl : j = u.x.i := by omega
      rw [hrs] at hr
      have : k = k' := by simp at hr; omega
      subst this
      exact hthis hx
  by_cases hi : u.x.i + 1 < u.x.rs.length
  · have e := stC4more st hrp hh hv hi
    rw [stepR_busy (by rw [step_com cb.job]; exact e), e]
    have inv : AInv sgm Good4 H Hc (A.upd t (comT u.x.stamp u.read (heldL u.x.rows) q (some u.x.made))) := by rw [← ha, upd_self]; exact h.inv
    exact ⟨_, _, _, h.quiet ht _ inv (fun k => by rw [ha]) (len_loaded _ _) (fun q _ => vq_loaded _ _ _) (.ckd W q ⟨⟨tb.m, tb.th, tb.ckk, tb.top, tb.mr, tb.mw, tb.wt, tb.plan, tb.rd, tb.rs, tb.fin, tb.sp⟩, cb.busy, cb.alive, cb.phased, cb.job, cb.i, cb.w.turn rfl rfl rfl rfl, cb.rows⟩ sure full old st hi top hval) (not_fin tb.fin cb.phased)⟩
  · have e := stC4last st hrp hh hv hi tb.wt hws
    rw [stepR_busy (by rw [step_com cb.job]; exact e), e]
    obtain ⟨H', Hc', inv2⟩ := decide_run h.inv ha cb.w (fun p v hp => by
      obtain ⟨j, v', hj, hjr⟩ := hasL_idx (tb.rs.has p v hp)
      exact hval j (sgm p) v' (by omega) hjr (cb.w.good.2.2.1 p v hp))
    refine ⟨_, H', Hc', h.turn ht inv2 (h.wds.same (len_loaded _ _) (fun q _ => vq_loaded _ _ _) (fun j k => ?_) rfl rfl rfl) ?_ (fun j hj => AS.upd_ne _ _ hj) (Int.le_refl _) (by show A.c ≤ A.c + 1; omega) (fun k => .inl rfl) (fun j _ _ => vq_loaded _ _ _) (not_fin tb.fin cb.phased)⟩
    · by_cases e : j = t
      · subst e; rw [AS.upd_at, ha]; rfl
      · rw [AS.upd_ne _ _ e]
    · rw [AS.upd_at]
      exact .wr W q u.x.stamp ⟨⟨tb.m, tb.th, tb.ckk, tb.top, tb.mr, tb.mw, tb.wt, tb.plan, tb.rd, tb.rs, tb.fin, tb.sp⟩, cb.busy, cb.alive, cb.phased, cb.job, cb.i, cb.w.turn rfl rfl rfl rfl, cb.rows⟩ rfl (by show 0 < 2; decide) top rne

/-- One of its writes is laid. -/
theorem next_wr (h : Sim ck N s us A H Hc) (ht : t < 3) (u : RU) (hu : us t = u) (W : List (Nat × Int)) (q : Option Int) (S : Int) (cb : CB ck t A.ver u W) (st : u.x.st = 6) (lt : u.x.i < 2) (top : u.x.made ≤ 1000) (ne : u.x.rows ≠ [])
    (ha : A.T t = decT S u.read (heldL u.x.rows) q (some u.x.made) (W.drop u.x.i)) : Next ck N s us t := by
  have tb := cb.tb
  obtain ⟨r2, w2, rne, wl⟩ := cb.w.two
  obtain ⟨p, v, hp4, hWi, hwi⟩ : ∃ p v, p < 4 ∧ W[u.x.i]? = some (p, v) ∧ u.x.ws.getD u.x.i (0, 0) = (dataP p, v) := by
    cases cb.w with
    | mk f g k vf vg hf hg hfg hp hr hw h1 h2 =>
      have : u.x.i = 0 ∨ u.x.i = 1 := by omega
      rcases this with e | e
      · exact ⟨f, wrap64 (vf + -k), hf, by rw [e]; rfl, by rw [e, hw]; rfl⟩
      · exact ⟨g, wrap64 (vg + k), hg, by rw [e]; rfl, by rw [e, hw]; rfl⟩
  have hdrop : W.drop u.x.i = (p, v) :: W.drop (u.x.i + 1) := by
    obtain ⟨hl, he⟩ := List.getElem?_eq_some_iff.1 hWi
    rw [List.drop_eq_getElem_cons hl, he]
  have inv := h.inv.lay t p v (W.drop (u.x.i + 1)) (by rw [ha]; exact hdrop)
  have hA : ({ A.T t with pend := W.drop (u.x.i + 1) } : AT) = decT S u.read (heldL u.x.rows) q (some u.x.made) (W.drop (u.x.i + 1)) := by rw [ha]; rfl
  rw [hA] at inv
  have hhas : s.has (dataP p) := by unfold dataP; exact h.wds.has (by omega) (by omega)
  have hheld : ∀ t' j, ((({ A with d := fset A.d p v } : AS).upd t (decT S u.read (heldL u.x.rows) q (some u.x.made) (W.drop (u.x.i + 1)))).T t').held j = (A.T t').held j := fun t' j => by
    by_cases e : t' = t
    · subst e; rw [AS.upd_at, ha]; rfl
    · rw [AS.upd_ne _ _ e]
  have wds : Wds (s.stored (dataP p) v) (({ A with d := fset A.d p v } : AS).upd t (decT S u.read (heldL u.x.rows) q (some u.x.made) (W.drop (u.x.i + 1)))) :=
    h.wds.data v (len_stored _ _ _) (fun q => vq_stored hhas v q) rfl rfl rfl hheld
  have hph : ∀ j : Nat, j < 3 → j ≠ t → (s.stored (dataP p) v).vAt (11 + 2 * (j : Int)) = s.vAt (11 + 2 * (j : Int)) := fun j _ _ => by
    rw [vq_stored hhas, if_neg (by unfold dataP; omega)]
  unfold Next
  rw [hu, nextR_busy cb.busy tb.fin, step_com cb.job]
  by_cases hi : u.x.i + 1 = u.x.ws.length
  · have e := stC6last (s := s) st hi
    rw [hwi] at e
    rw [stepR_busy (by rw [step_com cb.job]; exact e), e]
    refine ⟨_, _, _, h.turn ht inv wds ?_ (fun j hj => AS.upd_ne _ _ hj) (Int.le_refl _) (by show A.c ≤ A.c + 1; omega) (fun k => .inl rfl) hph (not_fin tb.fin cb.phased)⟩
    rw [AS.upd_at, show W.drop (u.x.i + 1) = [] from List.drop_eq_nil_of_le (by omega)]
    exact .fr W q S ⟨⟨tb.m, tb.th, tb.ckk, tb.top, tb.mr, tb.mw, tb.wt, tb.plan, tb.rd, tb.rs, tb.fin, tb.sp⟩, cb.busy, cb.alive, cb.phased, cb.job, cb.i, cb.w.turn rfl rfl rfl rfl, cb.rows⟩ rfl (List.length_pos_iff.2 ne) top
  · have e := stC6more (s := s) st hi
    rw [hwi] at e
    rw [stepR_busy (by rw [step_com cb.job]; exact e), e]
    refine ⟨_, _, _, h.turn ht inv wds ?_ (fun j hj => AS.upd_ne _ _ hj) (Int.le_refl _) (by show A.c ≤ A.c + 1; omega) (fun k => .inl rfl) hph (not_fin tb.fin cb.phased)⟩
    rw [AS.upd_at]
    exact .wr W q S ⟨⟨tb.m, tb.th, tb.ckk, tb.top, tb.mr, tb.mw, tb.wt, tb.plan, tb.rd, tb.rs, tb.fin, tb.sp⟩, cb.busy, cb.alive, cb.phased, cb.job, cb.i, cb.w.turn rfl rfl rfl rfl, cb.rows⟩ st (by show u.x.i + 1 < 2; omega) top ne

theorem free_val {m : Int} (h0 : 0 ≤ m) (h1 : m ≤ 1000) : freeF m = m * 16 := by unfold freeF wrap64; omega
/-- A stripe is let go. -/
theorem next_fr (h : Sim ck N s us A H Hc) (ht : t < 3) (u : RU) (hu : us t = u) (W : List (Nat × Int)) (q : Option Int) (S : Int) (cb : CB ck t A.ver u W) (st : u.x.st = 7) (lt : u.x.i < u.x.rows.length) (top : u.x.made ≤ 1000)
    (ha : A.T t = decT S u.read (heldL (u.x.rows.drop u.x.i)) q (some u.x.made) []) : Next ck N s us t := by
  have tb := cb.tb
  obtain ⟨k, hk, hrow⟩ := cb.rows.at lt
  have hrp : u.x.stripeP (u.x.rows.getD u.x.i 0) = 2 + (k : Int) := row_at tb.m hk hrow
  have hhas : s.has (2 + (k : Int)) := h.wds.has (by omega) (by omega)
  have hkh : (A.T t).held k = true := by
    rw [ha]
    show heldL (u.x.rows.drop u.x.i) k = true
    unfold heldL
    rw [decide_eq_true_iff]
    exact List.mem_of_getElem? (i := 0) (by rw [List.getElem?_drop, Nat.add_zero]; exact hrow)
  have hM : (A.T t).M = some u.x.made := by rw [ha]; rfl
  have hm0 : 0 ≤ u.x.made := by have := (h.inv.made t _ hM).2.1 k hkh; have := h.v0 k; omega
  have inv := h.inv.letgo t k u.x.made (by rw [ha]; rfl) hM (by rw [ha]; rfl) hkh
  have hA : ({ A.T t with held := fset (A.T t).held k false } : AT) = decT S u.read (heldL (u.x.rows.drop (u.x.i + 1))) q (some u.x.made) [] := by
    rw [ha]
    show (⟨false, S, u.read, none, none, fset (heldL (u.x.rows.drop u.x.i)) k false, q, some u.x.made, true, []⟩ : AT) = _
    rw [heldL_drop cb.rows.nd hrow]
    rfl
  rw [hA] at inv
  have hheld : ∀ j, heldL (u.x.rows.drop (u.x.i + 1)) j = if j = k then false else (A.T t).held j := fun j => by
    rw [← heldL_drop cb.rows.nd hrow, ha]
    rfl
  have hothers : ∀ t', t' ≠ t → (A.T t').held k = false := fun t' e => h.inv.alone hkh e
  have word : ∀ (a : AT), (∀ j, a.held j = if j = k then false else (A.T t).held j) → Wds (s.stored (2 + (k : Int)) (freeF u.x.made)) (({ A with ver := fset A.ver k u.x.made } : AS).upd t a) := fun a hx => by
    refine h.wds.word (freeF u.x.made) (len_stored _ _ _) (fun q => vq_stored hhas _ q) hk rfl rfl (fun j hj => fset_ne _ _ hj) (fun t' j hj => ?_) (fun _ => ?_) (fun t' hy => ?_)
    · by_cases e : t' = t
      · subst e; rw [AS.upd_at, hx, if_neg hj]
      · rw [AS.upd_ne _ _ e]
    · show freeF u.x.made = fset A.ver k u.x.made k * 16
      rw [fset_at, free_val hm0 top]
    · by_cases e : t' = t
      · subst e; rw [AS.upd_at, hx, if_pos rfl] at hy; cases hy
      · rw [AS.upd_ne _ _ e] at hy
        have := hothers t' e
        rw [show (({ A with ver := fset A.ver k u.x.made } : AS).T t').held k = (A.T t').held k from rfl, this] at hy
        cases hy
  have hph : ∀ j : Nat, j < 3 → j ≠ t → (s.stored (2 + (k : Int)) (freeF u.x.made)).vAt (11 + 2 * (j : Int)) = s.vAt (11 + 2 * (j : Int)) := fun j _ _ => by
    rw [vq_stored hhas, if_neg (by omega)]
  have hver : ∀ j, fset A.ver k u.x.made j = A.ver j ∨ (A.T t).held j = true ∧ 0 ≤ fset A.ver k u.x.made j := fun j => by
    by_cases e : j = k
    · subst e; rw [fset_at]; exact .inr ⟨hkh, hm0⟩
    · exact .inl (fset_ne _ _ e)
  unfold Next
  rw [hu, nextR_busy cb.busy tb.fin, step_com cb.job]
  by_cases hi : u.x.i + 1 = u.x.rows.length
  · have e := stC7last (s := s) st hrp hi
    rw [stepR_busy (by rw [step_com cb.job]; exact e), e]
    have hnil : u.x.rows.drop (u.x.i + 1) = [] := List.drop_eq_nil_of_le (by omega)
    have inv2 := inv.idle t (fun j => by rw [AS.upd_at]; show heldL _ j = false; rw [hnil, heldL_nil])
    rw [upd_upd] at inv2
    refine ⟨_, _, _, h.turn ht inv2 (word idleT (fun j => by rw [← hheld j, hnil, heldL_nil]; rfl)) ?_ (fun j hj => AS.upd_ne _ _ hj) (Int.le_refl _) (by show A.c ≤ A.c + 1; omega) hver hph (not_fin tb.fin cb.phased)⟩
    rw [AS.upd_at]
    exact .en ⟨tb.m, tb.th, tb.ckk, tb.top, tb.mr, tb.mw, tb.wt, tb.plan, tb.rd, tb.rs, tb.fin, tb.sp⟩ cb.busy cb.job rfl cb.i cb.w.sum
  · have e := stC7more (s := s) st hrp hi
    rw [stepR_busy (by rw [step_com cb.job]; exact e), e]
    refine ⟨_, _, _, h.turn ht inv (word _ hheld) ?_ (fun j hj => AS.upd_ne _ _ hj) (Int.le_refl _) (by show A.c ≤ A.c + 1; omega) hver hph (not_fin tb.fin cb.phased)⟩
    rw [AS.upd_at]
    exact .fr W q S ⟨⟨tb.m, tb.th, tb.ckk, tb.top, tb.mr, tb.mw, tb.wt, tb.plan, tb.rd, tb.rs, tb.fin, tb.sp⟩, cb.busy, cb.alive, cb.phased, cb.job, cb.i, cb.w.turn rfl rfl rfl rfl, cb.rows⟩ st (by show u.x.i + 1 < u.x.rows.length; omega) top

/-- One access of undoing. -/
theorem next_un (h : Sim ck N s us A H Hc) (ht : t < 3) (u : RU) (hu : us t = u) (tb : TB ck t u) (busy : u.busy = true) (job : u.x.job = 5) (phased : u.x.phased = true) (rows : RowsOk u.x.rows) (le : u.x.old.length ≤ u.x.rows.length) (xi : u.x.i ≤ u.x.old.length) (old : OldFrom A.ver u.x.rows u.x.old u.x.i) (so : SumOk u)
    (ha : A.T t = { idleT with held := heldL ((u.x.rows.take u.x.old.length).drop u.x.i) }) : Next ck N s us t := by
  unfold Next
  rw [hu, nextR_busy busy tb.fin, step_undo job]
  by_cases hi : u.x.i < u.x.old.length
  · obtain ⟨k, hk, hrow⟩ := rows.at (j := u.x.i) (by omega)
    have hrp : u.x.stripeP (u.x.rows.getD u.x.i 0) = 2 + (k : Int) := row_at tb.m hk hrow
    have hhas : s.has (2 + (k : Int)) := h.wds.has (by omega) (by omega)
    have hrt : (u.x.rows.take u.x.old.length)[u.x.i]? = some (k : Int) := by rw [List.getElem?_take_of_lt hi]; exact hrow
    have hnd : (u.x.rows.take u.x.old.length).Nodup := rows.nd.sublist (List.take_sublist _ _)
    have hkh : (A.T t).held k = true := by
      rw [ha]
      show heldL ((u.x.rows.take u.x.old.length).drop u.x.i) k = true
      unfold heldL
      rw [decide_eq_true_iff]
      exact List.mem_of_getElem? (i := 0) (by rw [List.getElem?_drop, Nat.add_zero]; exact hrt)
    have ho : u.x.old.getD u.x.i 0 = A.ver k * 16 := by rw [List.getD_eq_getElem?_getD, old u.x.i k (Nat.le_refl _) hi hrow]; rfl
    have e := stU_row (s := s) hi phased job hrp
    rw [ho] at e
    rw [stepR_busy (by rw [step_undo job]; exact e), e]
    have inv := h.inv.undo t k (by rw [ha]; rfl)
    have hA : ({ idleT with held := fset (A.T t).held k false } : AT) = { idleT with held := heldL ((u.x.rows.take u.x.old.length).drop (u.x.i + 1)) } := by
      rw [ha]
      show (⟨false, 0, [], none, none, fset (heldL ((u.x.rows.take u.x.old.length).drop u.x.i)) k false, none, none, false, []⟩ : AT) = _
      rw [heldL_drop hnd hrt]
      rfl
    rw [hA] at inv
    have hheld : ∀ j, heldL ((u.x.rows.take u.x.old.length).drop (u.x.i + 1)) j = if j = k then false else (A.T t).held j := fun j => by
      rw [← heldL_drop hnd hrt, ha]
      rfl
    refine ⟨_, _, _, h.turn ht inv (h.wds.word (A.ver k * 16) (len_stored _ _ _) (fun q => vq_stored hhas _ q) hk rfl rfl (fun _ _ => rfl) (fun t' j hj => ?_) (fun _ => rfl) (fun t' hy => ?_)) ?_ (fun j hj => AS.upd_ne _ _ hj) (Int.le_refl _) (by show A.c ≤ A.c + 1; omega) (fun k => .inl rfl) (fun j _ _ => ?_) (not_fin tb.fin phased)⟩
    · by_cases e : t' = t
      · subst e; rw [AS.upd_at]; show heldL _ j = _; rw [hheld, if_neg hj]
      · rw [AS.upd_ne _ _ e]
    · by_cases e : t' = t
      · subst e
        rw [AS.upd_at] at hy
        have hy : heldL ((u.x.rows.take u.x.old.length).drop (u.x.i + 1)) k = true := hy
        rw [hheld, if_pos rfl] at hy; cases hy
      · rw [AS.upd_ne _ _ e, h.inv.alone hkh e] at hy; cases hy
    · rw [AS.upd_at]
      exact .un ⟨tb.m, tb.th, tb.ckk, tb.top, tb.mr, tb.mw, tb.wt, tb.plan, tb.rd, tb.rs, tb.fin, tb.sp⟩ busy job phased rows le (by show u.x.i + 1 ≤ u.x.old.length; omega) (fun j k' hij hj hk' => old j k' (by have hij : u.x.i + 1 ≤ j := hij; omega) hj hk') so
    · rw [vq_stored hhas, if_neg (by omega)]
  · have e := stU_end (s := s) hi
    rw [tb.phase ht] at e
    rw [stepR_dead (by rw [step_undo job]; exact e), e]
    have hnone : ∀ k, (A.T t).held k = false := fun k => by
      rw [ha]
      show heldL ((u.x.rows.take u.x.old.length).drop u.x.i) k = false
      rw [List.drop_eq_nil_of_le (by rw [List.length_take]; omega), heldL_nil]
    exact ⟨_, _, _, h.quiet ht idleT (idle_inv h hnone) (fun k => by rw [hnone]; rfl) (len_stored _ _ _) (fun q hq => vq_phase h ht _ q hq) (.over (by show (2 : Int) ≠ 0; decide) so) (fun _ => by rw [vq_stored (phase_has h ht), if_pos rfl])⟩
end

end Go.Proofs.Ytjfinnjmcnjciaa

namespace Go.Proofs.Ytjfinnjmcnjciaa
open Go.RowKit

theorem PlanOk.split {p : Pl} (h : PlanOk p) : p = PR ∨ ∃ f g k, f < 4 ∧ g < 4 ∧ f ≠ g ∧ p = PW f g k := by
  cases h with
  | reads => exact .inl rfl
  | moves f g k hf hg hfg => exact .inr ⟨f, g, k, hf, hg, hfg, rfl⟩
theorem txWrite_ok {x : TX} {a v : Int} (h : x.alive = true ∧ x.job = 0) (h2 : 0 ≤ a ∧ a < x.m.size ∧ wputB x.mw x.ws a = true) : txWrite x a v = (1, { x with ws := wputL x.mw x.ws a v }) := by
  unfold txWrite
  rw [if_pos h, if_pos h2]
theorem askR_write {u : RU} {d : Nat} {z : Int} {y : TX} (h0 : ¬ u.i = 0) (hl : ¬ u.plan.length < u.i) (hp : u.plan.getD (u.i - 1) (false, 0, 0) = (true, d, z)) (hw : txWrite u.x (dataP d) (valR u.read d z) = (1, y)) :
    askR u = { u with x := y, busy := false, i := u.i + 1 } := by
  have e : askC u = (1, y) := by
    unfold askC
    rw [if_neg h0, if_neg hl, hp, if_neg (show ¬ (true = false) by decide)]
    exact hw
  unfold askR tookC
  rw [e]
  show doneR { u with x := y, busy := decide ((1 : Int) = 0) } = _
  exact doneR_wrote (u := { u with x := y, busy := decide ((1 : Int) = 0) }) (d := d) (z := z) hl hp
theorem askR_commit {u : RU} (h0 : ¬ u.i = 0) (hl : u.plan.length < u.i) (ha : u.x.alive = true ∧ u.x.job = 0) : askR u = { u with x := { u.x with job := 4, st := 0, i := 0 }, busy := true } := by
  have e : askC u = (0, { u.x with job := 4, st := 0, i := 0 }) := by
    unfold askC
    rw [if_neg h0, if_pos hl]
    unfold txCommit
    rw [if_pos ha]
  unfold askR tookC
  rw [e]
  rfl

section
variable {ck N : Int} {s : MS} {us : Nat → RU} {A : AS} {H : Int → Nat → Int} {Hc : Nat → Int} {t : Nat}

/-- Both are written, and the commit begins. -/
theorem next_c0w (h : Sim ck N s us A H Hc) (ht : t < 3) (u : RU) (hu : us t = u) (tb : TB ck t u) (busy : u.busy = false) (alive : u.x.alive = true) (sure : u.x.sure = false) (phased : u.x.phased = false) (job : u.x.job = 0) (ws : u.x.ws = []) (old : u.x.old = []) (i : u.i = u.read.length + 1)
    (f g : Nat) (k : Int) (hf : f < 4) (hg : g < 4) (hfg : f ≠ g) (hp : u.plan = PW f g k) (hl : u.read.length = 2) (ha : A.T t = rdT u.x.stamp u.read none none) : Next ck N s us t := by
  have i3 : u.i = 3 := by omega
  have hpl : u.plan.length = 4 := by rw [hp]; rfl
  obtain ⟨vf, vg, hr⟩ : ∃ vf vg, u.read = [(f, vf), (g, vg)] := by
    have h0 := tb.rd.at_
    rw [hp] at h0
    match hrd : u.read, hl with
    | [(a, va), (b, vb)], _ =>
      rw [hrd] at h0
      have e1 := h0 0 a va rfl
      have e2 := h0 1 b vb rfl
      simp [PW] at e1 e2
      exact ⟨va, vb, by rw [← e1, ← e2]⟩
  have v1 : valR u.read f (-k) = wrap64 (vf + -k) := by
    rw [hr]
    unfold valR
    simp only [List.foldl_cons, List.foldl_nil, if_true, if_neg (Ne.symm hfg)]
  have v2 : valR u.read g k = wrap64 (vg + k) := by
    rw [hr]
    unfold valR
    simp only [List.foldl_cons, List.foldl_nil, if_true, if_neg hfg]
  have in1 : 0 ≤ dataP f ∧ dataP f < u.x.m.size := by rw [tb.m, mT_size]; unfold dataP; omega
  have in2 : 0 ≤ dataP g ∧ dataP g < u.x.m.size := by rw [tb.m, mT_size]; unfold dataP; omega
  have hne : dataP f ≠ dataP g := by unfold dataP; omega
  have b1 : wputB u.x.mw u.x.ws (dataP f) = true := by rw [ws, tb.mw, wputB_new in1.1 rfl]; rfl
  have l1 : wputL u.x.mw u.x.ws (dataP f) (wrap64 (vf + -k)) = [(dataP f, wrap64 (vf + -k))] := by rw [ws, tb.mw, wputL_new _ in1.1 rfl (by decide)]; rfl
  have hn2 : hasL [(dataP f, wrap64 (vf + -k))] (dataP g) = false := by simp [hasL, hne]
  have b2 : wputB u.x.mw [(dataP f, wrap64 (vf + -k))] (dataP g) = true := by rw [tb.mw, wputB_new in2.1 hn2]; rfl
  have l2 : wputL u.x.mw [(dataP f, wrap64 (vf + -k))] (dataP g) (wrap64 (vg + k)) = [(dataP f, wrap64 (vf + -k)), (dataP g, wrap64 (vg + k))] := by rw [tb.mw, wputL_new _ in2.1 hn2 (show [(dataP f, wrap64 (vf + -k))].length < 32 from (show 1 < 32 by decide))]; rfl
  have w1 : txWrite u.x (dataP f) (valR u.read f (-k)) = (1, { u.x with ws := [(dataP f, wrap64 (vf + -k))] }) := by
    rw [txWrite_ok ⟨alive, job⟩ ⟨in1.1, in1.2, b1⟩, v1, l1]
  have a1 : askR u = { u with x := { u.x with ws := [(dataP f, wrap64 (vf + -k))] }, busy := false, i := u.i + 1 } :=
    askR_write (d := f) (z := -k) (by omega) (by omega) (by rw [i3, hp]; rfl) w1
  have w2 : txWrite ({ u.x with ws := [(dataP f, wrap64 (vf + -k))] } : TX) (dataP g) (valR u.read g k) = (1, { u.x with ws := [(dataP f, wrap64 (vf + -k)), (dataP g, wrap64 (vg + k))] }) := by
    rw [txWrite_ok (x := { u.x with ws := [(dataP f, wrap64 (vf + -k))] }) ⟨alive, job⟩ ⟨in2.1, in2.2, b2⟩, v2, l2]
  have a2 : askR { u with x := { u.x with ws := [(dataP f, wrap64 (vf + -k))] }, busy := false, i := u.i + 1 } = { u with x := { u.x with ws := [(dataP f, wrap64 (vf + -k)), (dataP g, wrap64 (vg + k))] }, busy := false, i := u.i + 1 + 1 } :=
    askR_write (d := g) (z := k) (by show ¬ u.i + 1 = 0; omega) (by show ¬ u.plan.length < u.i + 1; omega) (by show u.plan.getD (u.i + 1 - 1) _ = _; rw [i3, hp]; rfl) w2
  have a3 : askR { u with x := { u.x with ws := [(dataP f, wrap64 (vf + -k)), (dataP g, wrap64 (vg + k))] }, busy := false, i := u.i + 1 + 1 } = { u with x := { u.x with ws := [(dataP f, wrap64 (vf + -k)), (dataP g, wrap64 (vg + k))], job := 4, st := 0, i := 0 }, busy := true, i := u.i + 1 + 1 } :=
    askR_commit (by show ¬ u.i + 1 + 1 = 0; omega) (by show u.plan.length < u.i + 1 + 1; omega) ⟨alive, job⟩
  have e9 : asksR 9 u = { u with x := { u.x with ws := [(dataP f, wrap64 (vf + -k)), (dataP g, wrap64 (vg + k))], job := 4, st := 0, i := 0 }, busy := true, i := u.i + 1 + 1 } := by
    refine (asksR_go (n := 8) busy tb.fin).trans ?_
    rw [a1]
    refine (asksR_go (n := 7) (by rfl) (by exact tb.fin)).trans ?_
    rw [a2]
    refine (asksR_go (n := 6) (by rfl) (by exact tb.fin)).trans ?_
    rw [a3]
    exact asksR_busy 6 (by rfl)
  unfold Next
  rw [hu, nextR_asks tb.fin e9 tb.fin]
  generalize hx : ({ u.x with ws := [(dataP f, wrap64 (vf + -k)), (dataP g, wrap64 (vg + k))], job := 4, st := 0, i := 0 } : TX) = x
  have f1 : x.job = 4 := by subst hx; rfl
  have f2 : x.st = 0 := by subst hx; rfl
  have f3 : x.ws = [(dataP f, wrap64 (vf + -k)), (dataP g, wrap64 (vg + k))] := by subst hx; rfl
  have f4 : x.rs = u.x.rs := by subst hx; rfl
  have f7 : x.stamp = u.x.stamp := by subst hx; rfl
  have f8 : x.old = [] ∧ x.alive = true ∧ x.sure = false := by subst hx; exact ⟨old, alive, sure⟩
  have f6 : x.m = mT ∧ x.th = (t : Int) ∧ x.ck = ck ∧ x.top = 1000 ∧ x.mr = 32 ∧ x.mw = 32 ∧ x.wt = [] := by subst hx; exact ⟨tb.m, tb.th, tb.ckk, tb.top, tb.mr, tb.mw, tb.wt⟩
  clear hx e9 a1 a2 a3 w1 w2
  obtain ⟨m1, m2, m3, m4, m5, m6, m7⟩ := f6
  obtain ⟨g1, g2, g3⟩ := f8
  have f5 : x.phaseP = 11 + 2 * (t : Int) := by unfold TX.phaseP; rw [m1, m2]; exact mT_phase ht
  have hrows : rowsL x.m (x.ws.map fun p => p.1) x.m.s.toNat = rowsL mT [dataP f, dataP g] 3 := by rw [m1, f3]; rfl
  obtain ⟨q1, q2, q3⟩ := rows_two hf hg
  have e := stC0w (s := s) f2 (by rw [f3]; simp)
  rw [f5, hrows] at e
  rw [stepR_busy (by show txStep s x = _; rw [step_com f1]; exact e)]
  show ∃ A H Hc, Sim ck (N + 1) (txStep s x).2.2 _ A H Hc
  rw [step_com f1, e]
  have inv : AInv sgm Good4 H Hc (A.upd t (comT x.stamp u.read (heldL ((rowsL mT [dataP f, dataP g] 3).take x.old.length)) none none)) := by
    have e2 : comT x.stamp u.read (heldL ((rowsL mT [dataP f, dataP g] 3).take x.old.length)) none none = A.T t := by
      rw [ha, f7, g1]
      show comT u.x.stamp u.read (heldL []) none none = _
      rw [heldL_nil]
      rfl
    rw [e2, upd_self]
    exact h.inv
  refine ⟨_, _, _, h.quiet ht _ inv (fun j => ?_) (len_stored _ _ _) (fun q hq => vq_phase h ht _ q hq) ?_ (not_fin tb.fin rfl)⟩
  · rw [ha, g1]
    show heldL [] j = false
    rw [heldL_nil]
  · refine .lk [(f, wrap64 (vf + -k)), (g, wrap64 (vg + k))] ⟨⟨m1, m2, m3, m4, m5, m6, m7, tb.plan, tb.rd, by show RsOk x.rs u.read; rw [f4]; exact tb.rs, tb.fin, by show 0 ≤ x.stamp; rw [f7]; exact tb.sp⟩, rfl, g2, rfl, f1, by show u.i + 1 + 1 = 5; omega, .mk f g k vf vg hf hg hfg hp hr f3 q2 q3, q1⟩ g3 ?_ ?_ ?_ (.inl rfl)
    · show 0 = x.old.length
      rw [g1]; rfl
    · show x.old.length < (rowsL mT [dataP f, dataP g] 3).length
      rw [g1]
      exact List.length_pos_iff.2 (fun e => by rw [e] at q2; cases q2)
    · intro j k' _ hj _
      have hj : j < x.old.length := hj
      rw [g1] at hj
      exact absurd hj (Nat.not_lt_zero _)

/-- **Any pick leaves all as it may stand.** -/
theorem next_any (h : Sim ck N s us A H Hc) (ht : t < 3) (hck : ck = 1 ∨ ck = 2) (hN : N ≤ 900) : Next ck N s us t := by
  have hr := h.run t ht
  generalize hu : us t = u at hr
  generalize ha : A.T t = a at hr
  cases hr with
  | over hf so =>
    unfold Next
    rw [hu, nextR_over hf]
    have e : fset us t u = us := by
      funext j
      by_cases e : j = t
      · subst e; rw [fset_at, hu]
      · exact fset_ne _ _ e
    exact ⟨A, H, Hc, by rw [e]; exact ⟨h.inv, h.wds, h.run, h.rest, h.c0, by have := h.cN; omega, h.v0, h.ph⟩⟩
  | btw tb busy alive sure phased job ws old i =>
    have hn := tb.rd.len
    by_cases lt : u.read.length < nrd u.plan
    · exact next_rd0 h ht u hu tb busy alive sure phased job ws old i lt ha
    · rcases tb.plan.split with hp | ⟨f, g, k, hf, hg, hfg, hp⟩
      · have h4 : nrd u.plan = 4 := by rw [hp]; rfl
        exact next_c0r h ht u hu tb busy alive job ws (by omega) (fun k => by rw [ha]; rfl) (h.sum (t := t) (u := u) (by rw [ha]; rfl) (by rw [ha]; rfl) tb.rd)
      · have h2 : nrd u.plan = 2 := by rw [hp]; rfl
        exact next_c0w h ht u hu tb busy alive sure phased job ws old i f g k hf hg hfg hp (by omega) ha
  | rd1 d pv tb busy alive sure phased job ws old i lt hd at_ hat xi pre st => exact next_rd1 h ht u hu d pv tb busy alive sure phased job ws old i lt hd at_ hat xi pre st ha
  | rd2 d pv tb busy alive sure phased job ws old i lt hd at_ hat xi pre st => exact next_rd2 h ht u hu d pv tb busy alive sure phased job ws old i lt hd at_ hat xi pre st ha
  | lk W cb sure xi lt old st =>
    rcases st with st | ⟨st, pre⟩
    · exact next_lk1 h ht u hu W cb sure xi lt old st ha
    · exact next_lk2 h ht hck u hu W cb sure xi lt old st pre ha
  | bp W q cb sure full old st bump => exact next_bp h ht hN u hu W q cb sure full old st bump ha
  | ckd W q cb sure full old st lt top val => exact next_ckd h ht u hu W q cb sure full old st lt top val ha
  | wr W q S cb st lt top ne => exact next_wr h ht u hu W q S cb st lt top ne ha
  | fr W q S cb st lt top => exact next_fr h ht u hu W q S cb st lt top ha
  | en tb busy job st i so => exact next_en h ht u hu tb busy job st i so (fun k => by rw [ha]; rfl)
  | un tb busy job phased rows le xi old so => exact next_un h ht u hu tb busy job phased rows le xi old so ha
end

end Go.Proofs.Ytjfinnjmcnjciaa

namespace Go.Proofs.Ytjfinnjmcnjciaa
open Go.RowKit

/-- An attempt that has not begun. -/
def RU.new (t : Nat) (ck : Int) (p : Pl) : RU := ⟨TX.new mT t ck 32 32 1000, p, 0, false, 0, []⟩
theorem nextR_new (s : MS) (t : Nat) (ck : Int) (p : Pl) :
    nextR s (RU.new t ck p) = ({ x := { TX.new mT t ck 32 32 1000 with alive := true, stamp := s.vAt 0 }, plan := p, i := 1, busy := false, fin := 0, read := [] }, s.loaded 0) := by
  have e9 : asksR 9 (RU.new t ck p) = { x := { TX.new mT t ck 32 32 1000 with alive := true, job := 1 }, plan := p, i := 0, busy := true, fin := 0, read := [] } := by
    refine (asksR_go (n := 8) (by rfl) (by rfl)).trans ?_
    have : askR (RU.new t ck p) = { x := { TX.new mT t ck 32 32 1000 with alive := true, job := 1 }, plan := p, i := 0, busy := true, fin := 0, read := [] } := by
      unfold askR askC
      rfl
    rw [this]
    exact asksR_busy 8 (by rfl)
  rw [nextR_asks (by rfl) e9 (by rfl)]
  have e : txStep s ({ TX.new mT t ck 32 32 1000 with alive := true, job := 1 } : TX) = (1, { TX.new mT t ck 32 32 1000 with alive := true, stamp := s.vAt 0 }, s.loaded 0) := by
    unfold txStep
    rw [if_pos (by rfl)]
    unfold stBegin
    rw [show ({ TX.new mT t ck 32 32 1000 with alive := true, job := 1 } : TX).clockP = 0 from mT_clock]
    rfl
  have e2 : stepR s { x := { TX.new mT t ck 32 32 1000 with alive := true, job := 1 }, plan := p, i := 0, busy := true, fin := 0, read := [] } = doneR { x := { TX.new mT t ck 32 32 1000 with alive := true, stamp := s.vAt 0 }, plan := p, i := 0, busy := true, fin := 0, read := [] } := stepR_done e
  rw [e2]
  show (_, (txStep s ({ TX.new mT t ck 32 32 1000 with alive := true, job := 1 } : TX)).2.2) = _
  rw [e]
  congr 1
theorem Sim.begin {ck N : Int} {s : MS} {us : Nat → RU} {A : AS} {H : Int → Nat → Int} {Hc : Nat → Int} {t : Nat} (h : Sim ck N s us A H Hc) (ht : t < 3) (hf : (us t).fin ≠ 0) {p : Pl} (hp : PlanOk p) :
    ∃ A H Hc, Sim ck (N + 1) (nextR s (RU.new t ck p)).2 (fset us t (nextR s (RU.new t ck p)).1) A H Hc := by
  have hph := h.ph t ht (.inl hf)
  have ha : A.T t = idleT := by
    have hr := h.run t ht
    generalize A.T t = a at hr
    cases hr with
    | over hf so => rfl
    | btw tb => exact absurd tb.fin hf
    | rd1 d pv tb => exact absurd tb.fin hf
    | rd2 d pv tb => exact absurd tb.fin hf
    | lk W cb => exact absurd cb.tb.fin hf
    | bp W q cb => exact absurd cb.tb.fin hf
    | ckd W q cb => exact absurd cb.tb.fin hf
    | wr W q S cb => exact absurd cb.tb.fin hf
    | fr W q S cb => exact absurd cb.tb.fin hf
    | en tb => exact absurd tb.fin hf
    | un tb => exact absurd tb.fin hf
  have inv := h.inv.begin t (fun k => by rw [ha]; rfl)
  have hA : ({ idleT with live := true, S := A.c } : AT) = rdT (s.vAt 0) [] none none := by rw [h.wds.clk]; rfl
  rw [hA] at inv
  rw [nextR_new]
  exact ⟨_, _, _, h.quiet ht _ inv (fun k => by rw [ha]; rfl) (len_loaded _ _) (fun q _ => vq_loaded _ _ _)
    (.btw ⟨rfl, rfl, rfl, rfl, rfl, rfl, rfl, hp, ⟨Nat.zero_le _, fun j a v hj => by cases hj⟩, RsOk.nil, rfl, by show 0 ≤ s.vAt 0; rw [h.wds.clk]; exact h.c0⟩ rfl rfl rfl rfl rfl rfl rfl rfl) (fun _ => by rw [vq_loaded]; exact hph)⟩

/-! ### How far it is from its end -/
def mu (u : RU) : Nat :=
  if u.fin ≠ 0 then 0
  else if u.busy = false then 40 + 3 * (5 - u.read.length)
  else if u.x.job = 2 then (if u.x.st = 1 then 39 else 38) + 3 * (5 - u.read.length)
  else if u.x.job = 5 then 8 - u.x.i
  else if u.x.st = 1 then 36 - 2 * u.x.i
  else if u.x.st = 2 then 35 - 2 * u.x.i
  else if u.x.st = 3 then (if u.x.bump.s = 0 then 26 else 25)
  else if u.x.st = 4 then 22 - u.x.i
  else if u.x.st = 6 then 14 - u.x.i
  else if u.x.st = 7 then 11 - u.x.i
  else 2
section
variable {u : RU}
theorem mu_over (h : u.fin ≠ 0) : mu u = 0 := if_pos h
theorem mu_btw (h : u.fin = 0) (b : u.busy = false) : mu u = 40 + 3 * (5 - u.read.length) := by unfold mu; rw [if_neg (by rw [h]; decide), if_pos b]
theorem mu_busy (h : u.fin = 0) (b : u.busy = true) : mu u = if u.x.job = 2 then (if u.x.st = 1 then 39 else 38) + 3 * (5 - u.read.length)
  else if u.x.job = 5 then 8 - u.x.i
  else if u.x.st = 1 then 36 - 2 * u.x.i
  else if u.x.st = 2 then 35 - 2 * u.x.i
  else if u.x.st = 3 then (if u.x.bump.s = 0 then 26 else 25)
  else if u.x.st = 4 then 22 - u.x.i
  else if u.x.st = 6 then 14 - u.x.i
  else if u.x.st = 7 then 11 - u.x.i
  else 2 := by unfold mu; rw [if_neg (by rw [h]; decide), if_neg (by rw [b]; decide)]
theorem mu_rd (h : u.fin = 0) (b : u.busy = true) (j : u.x.job = 2) : mu u = (if u.x.st = 1 then 39 else 38) + 3 * (5 - u.read.length) := by rw [mu_busy h b, if_pos j]
theorem mu_un (h : u.fin = 0) (b : u.busy = true) (j : u.x.job = 5) : mu u = 8 - u.x.i := by rw [mu_busy h b, if_neg (by rw [j]; decide), if_pos j]
theorem mu_com (h : u.fin = 0) (b : u.busy = true) (j : u.x.job = 4) : mu u = if u.x.st = 1 then 36 - 2 * u.x.i
  else if u.x.st = 2 then 35 - 2 * u.x.i
  else if u.x.st = 3 then (if u.x.bump.s = 0 then 26 else 25)
  else if u.x.st = 4 then 22 - u.x.i
  else if u.x.st = 6 then 14 - u.x.i
  else if u.x.st = 7 then 11 - u.x.i
  else 2 := by rw [mu_busy h b, if_neg (by rw [j]; decide), if_neg (by rw [j]; decide)]
theorem mu_pos (h : u.fin = 0) : mu u ≤ 55 ∧ (u.busy = true → u.x.job = 5 → u.x.i ≤ 7 → 0 < mu u) := by
  refine ⟨?_, fun b j hi => by rw [mu_un h b j]; omega⟩
  cases b : u.busy with
  | false => rw [mu_btw h b]; omega
  | true =>
    rw [mu_busy h b]
    repeat' split
    all_goals omega
end
theorem rows_le {rows : List Int} (h : RowsOk rows) : rows.length ≤ 3 := by
  refine Nat.le_of_not_lt fun hl => ?_
  have hp := List.pairwise_iff_getElem.1 h.nd
  have key : ∀ j (hj : j < rows.length), 0 ≤ rows[j] ∧ rows[j] < 3 := fun j hj => by
    obtain ⟨k, hk, e⟩ := h.one rows[j] (List.getElem_mem hj)
    omega
  have a0 := key 0 (by omega)
  have a1 := key 1 (by omega)
  have a2 := key 2 (by omega)
  have a3 := key 3 (by omega)
  have d01 := hp 0 1 (by omega) (by omega) (by decide)
  have d02 := hp 0 2 (by omega) (by omega) (by decide)
  have d03 := hp 0 3 (by omega) (by omega) (by decide)
  have d12 := hp 1 2 (by omega) (by omega) (by decide)
  have d13 := hp 1 3 (by omega) (by omega) (by decide)
  have d23 := hp 2 3 (by omega) (by omega) (by decide)
  omega

end Go.Proofs.Ytjfinnjmcnjciaa

namespace Go.Proofs.Ytjfinnjmcnjciaa
open Go.RowKit

theorem asks_read {ck : Int} {t : Nat} {u : RU} (tb : TB ck t u) (busy : u.busy = false) (alive : u.x.alive = true) (job : u.x.job = 0) (ws : u.x.ws = []) (i : u.i = u.read.length + 1) (lt : u.read.length < nrd u.plan) :
    ∃ d z, asksR 9 u = { u with x := { u.x with job := 2, st := 0, i := 0, asked := z, at_ := dataP d }, busy := true } := by
  obtain ⟨d, hd, at_, hat'⟩ := tb.plan.at lt
  have hpl := tb.plan.len
  have hr4 := tb.rs.len
  have ei : u.plan.getD (u.i - 1) (false, 0, 0) = (false, d, 0) := by rw [i, Nat.add_sub_cancel]; exact hat'
  have eask : askC u = (0, { u.x with job := 2, st := 0, i := 0, asked := if mayL u.x.ws (dataP d) = true then u.x.asked + 1 else u.x.asked, at_ := dataP d }) := by
    unfold askC
    rw [if_neg (show ¬ u.i = 0 by omega), if_neg (show ¬ u.plan.length < u.i by omega), ei, if_pos rfl]
    unfold txRead
    rw [if_pos ⟨alive, job⟩, if_pos (show 0 ≤ dataP d ∧ dataP d < u.x.m.size by rw [tb.m, mT_size]; unfold dataP; omega), if_neg (show ¬ hasL u.x.ws (dataP d) = true by rw [ws]; simp [hasL]), if_pos (show roomL u.x.mr u.x.rs (u.x.m.hash (dataP d)) = true by
      rw [tb.mr]
      unfold roomL
      rw [decide_eq_true (show u.x.rs.length < 32 by omega), Bool.or_true])]
  have e9 : asksR 9 u = { u with x := { u.x with job := 2, st := 0, i := 0, asked := if mayL u.x.ws (dataP d) = true then u.x.asked + 1 else u.x.asked, at_ := dataP d }, busy := true } := by
    rw [asksR_go busy tb.fin]
    unfold askR tookC
    rw [eask]
    exact asksR_busy 8 rfl
  exact ⟨d, _, e9⟩
theorem asks_commit {ck : Int} {t : Nat} {u : RU} (tb : TB ck t u) (busy : u.busy = false) (alive : u.x.alive = true) (job : u.x.job = 0) (i : u.i = 5) : asksR 9 u = { u with x := { u.x with job := 4, st := 0, i := 0 }, busy := true } := by
  have hpl := tb.plan.len
  have eask : askC u = (0, { u.x with job := 4, st := 0, i := 0 }) := by
    unfold askC
    rw [if_neg (show ¬ u.i = 0 by omega), if_pos (show u.plan.length < u.i by omega)]
    unfold txCommit
    rw [if_pos ⟨alive, job⟩]
  have e9 : asksR 9 u = { u with x := { u.x with job := 4, st := 0, i := 0 }, busy := true } := by
    rw [asksR_go busy tb.fin]
    unfold askR tookC
    rw [eask]
    exact asksR_busy 8 rfl
  exact e9
theorem asks_moves {ck : Int} {t : Nat} {u : RU} (tb : TB ck t u) (busy : u.busy = false) (alive : u.x.alive = true) (job : u.x.job = 0) (ws : u.x.ws = []) (i : u.i = u.read.length + 1)
    (f g : Nat) (k : Int) (hf : f < 4) (hg : g < 4) (hfg : f ≠ g) (hp : u.plan = PW f g k) (hl : u.read.length = 2) : ∃ l y, asksR 9 u = { u with x := { u.x with ws := y :: l, job := 4, st := 0, i := 0 }, busy := true, i := u.i + 1 + 1 } := by
  have i3 : u.i = 3 := by omega
  have hpl : u.plan.length = 4 := by rw [hp]; rfl
  obtain ⟨vf, vg, hr⟩ : ∃ vf vg, u.read = [(f, vf), (g, vg)] := by
    have h0 := tb.rd.at_
    rw [hp] at h0
    match hrd : u.read, hl with
    | [(a, va), (b, vb)], _ =>
      rw [hrd] at h0
      have e1 := h0 0 a va rfl
      have e2 := h0 1 b vb rfl
      simp [PW] at e1 e2
      exact ⟨va, vb, by rw [← e1, ← e2]⟩
  have v1 : valR u.read f (-k) = wrap64 (vf + -k) := by
    rw [hr]
    unfold valR
    simp only [List.foldl_cons, List.foldl_nil, if_true, if_neg (Ne.symm hfg)]
  have v2 : valR u.read g k = wrap64 (vg + k) := by
    rw [hr]
    unfold valR
    simp only [List.foldl_cons, List.foldl_nil, if_true, if_neg hfg]
  have in1 : 0 ≤ dataP f ∧ dataP f < u.x.m.size := by rw [tb.m, mT_size]; unfold dataP; omega
  have in2 : 0 ≤ dataP g ∧ dataP g < u.x.m.size := by rw [tb.m, mT_size]; unfold dataP; omega
  have hne : dataP f ≠ dataP g := by unfold dataP; omega
  have b1 : wputB u.x.mw u.x.ws (dataP f) = true := by rw [ws, tb.mw, wputB_new in1.1 rfl]; rfl
  have l1 : wputL u.x.mw u.x.ws (dataP f) (wrap64 (vf + -k)) = [(dataP f, wrap64 (vf + -k))] := by rw [ws, tb.mw, wputL_new _ in1.1 rfl (by decide)]; rfl
  have hn2 : hasL [(dataP f, wrap64 (vf + -k))] (dataP g) = false := by simp [hasL, hne]
  have b2 : wputB u.x.mw [(dataP f, wrap64 (vf + -k))] (dataP g) = true := by rw [tb.mw, wputB_new in2.1 hn2]; rfl
  have l2 : wputL u.x.mw [(dataP f, wrap64 (vf + -k))] (dataP g) (wrap64 (vg + k)) = [(dataP f, wrap64 (vf + -k)), (dataP g, wrap64 (vg + k))] := by rw [tb.mw, wputL_new _ in2.1 hn2 (show [(dataP f, wrap64 (vf + -k))].length < 32 from (show 1 < 32 by decide))]; rfl
  have w1 : txWrite u.x (dataP f) (valR u.read f (-k)) = (1, { u.x with ws := [(dataP f, wrap64 (vf + -k))] }) := by
    rw [txWrite_ok ⟨alive, job⟩ ⟨in1.1, in1.2, b1⟩, v1, l1]
  have a1 : askR u = { u with x := { u.x with ws := [(dataP f, wrap64 (vf + -k))] }, busy := false, i := u.i + 1 } :=
    askR_write (d := f) (z := -k) (by omega) (by omega) (by rw [i3, hp]; rfl) w1
  have w2 : txWrite ({ u.x with ws := [(dataP f, wrap64 (vf + -k))] } : TX) (dataP g) (valR u.read g k) = (1, { u.x with ws := [(dataP f, wrap64 (vf + -k)), (dataP g, wrap64 (vg + k))] }) := by
    rw [txWrite_ok (x := { u.x with ws := [(dataP f, wrap64 (vf + -k))] }) ⟨alive, job⟩ ⟨in2.1, in2.2, b2⟩, v2, l2]
  have a2 : askR { u with x := { u.x with ws := [(dataP f, wrap64 (vf + -k))] }, busy := false, i := u.i + 1 } = { u with x := { u.x with ws := [(dataP f, wrap64 (vf + -k)), (dataP g, wrap64 (vg + k))] }, busy := false, i := u.i + 1 + 1 } :=
    askR_write (d := g) (z := k) (by show ¬ u.i + 1 = 0; omega) (by show ¬ u.plan.length < u.i + 1; omega) (by show u.plan.getD (u.i + 1 - 1) _ = _; rw [i3, hp]; rfl) w2
  have a3 : askR { u with x := { u.x with ws := [(dataP f, wrap64 (vf + -k)), (dataP g, wrap64 (vg + k))] }, busy := false, i := u.i + 1 + 1 } = { u with x := { u.x with ws := [(dataP f, wrap64 (vf + -k)), (dataP g, wrap64 (vg + k))], job := 4, st := 0, i := 0 }, busy := true, i := u.i + 1 + 1 } :=
    askR_commit (by show ¬ u.i + 1 + 1 = 0; omega) (by show u.plan.length < u.i + 1 + 1; omega) ⟨alive, job⟩
  have e9 : asksR 9 u = { u with x := { u.x with ws := [(dataP f, wrap64 (vf + -k)), (dataP g, wrap64 (vg + k))], job := 4, st := 0, i := 0 }, busy := true, i := u.i + 1 + 1 } := by
    refine (asksR_go (n := 8) busy tb.fin).trans ?_
    rw [a1]
    refine (asksR_go (n := 7) (by rfl) (by exact tb.fin)).trans ?_
    rw [a2]
    refine (asksR_go (n := 6) (by rfl) (by exact tb.fin)).trans ?_
    rw [a3]
    exact asksR_busy 6 (by rfl)
  exact ⟨_, _, e9⟩

section
variable {s : MS} {u : RU}
theorem mu_dead {x : TX} {s' : MS} (e : txStep s u.x = (2, x, s')) : mu (stepR s u) = 0 := by rw [stepR_dead e]; exact mu_over (by show (2 : Int) ≠ 0; decide)
theorem mu_done {x : TX} {s' : MS} (e : txStep s u.x = (1, x, s')) (h : u.plan.length < u.i) : mu (stepR s u) = 0 := by
  rw [stepR_done e, doneR_end (u := { u with x := x }) h]
  exact mu_over (by show (1 : Int) ≠ 0; decide)
theorem mu_abort {x : TX} {s' : MS} (e : txStep s u.x = (0, x, s')) (hf : u.fin = 0) (hb : u.busy = true) (hj : x.job = 5) (hi : x.i = 0) : mu (stepR s u) = 8 := by
  rw [stepR_busy e, mu_un (u := { u with x := x }) hf hb hj]
  show 8 - x.i = 8
  rw [hi]
theorem mu_lock {x : TX} {s' : MS} (e : txStep s u.x = (0, x, s')) (hf : u.fin = 0) (hb : u.busy = true) (hj : x.job = 4) : mu (stepR s u) = if x.st = 1 then 36 - 2 * x.i
  else if x.st = 2 then 35 - 2 * x.i
  else if x.st = 3 then (if x.bump.s = 0 then 26 else 25)
  else if x.st = 4 then 22 - x.i
  else if x.st = 6 then 14 - x.i
  else if x.st = 7 then 11 - x.i
  else 2 := by rw [stepR_busy e]; exact mu_com (u := { u with x := x }) hf hb hj
end
section
variable {ck N : Int} {s : MS} {us : Nat → RU} {A : AS} {H : Int → Nat → Int} {Hc : Nat → Int} {t : Nat}
theorem mu_next (h : Sim ck N s us A H Hc) (ht : t < 3) (hN : N ≤ 900) (u : RU) (hu : us t = u) (hf0 : u.fin = 0) : mu (nextR s u).1 < mu u := by
  have hr := h.run t ht
  rw [hu] at hr
  have ha : A.T t = A.T t := rfl
  generalize A.T t = a at hr
  cases hr with
  | over hf so => exact absurd hf0 hf
  | btw tb busy alive sure phased job ws old i =>
    have hn := tb.rd.len
    rw [mu_btw hf0 busy]
    by_cases lt : u.read.length < nrd u.plan
    · obtain ⟨d, z, e9⟩ := asks_read tb busy alive job ws i lt
      rw [nextR_asks tb.fin e9 tb.fin]
      show mu (stepR s _) < _
      generalize hx : ({ u.x with job := 2, st := 0, i := 0, asked := z, at_ := dataP d } : TX) = x
      have f1 : x.job = 2 := by subst hx; rfl
      have f2 : x.st = 0 := by subst hx; rfl
      have f5 : x.old = [] ∧ x.phased = false := by subst hx; exact ⟨old, phased⟩
      clear hx e9
      by_cases hf : freshF (s.vAt (x.stripeP (x.m.hash x.at_))) x.stamp = 0
      · have e := stRead_0y (s := s) f2 rfl hf
        rw [stepR_busy (u := { u with x := x, busy := true }) ((step_read f1).trans e), mu_rd (by exact hf0) rfl (by exact f1)]
        show (if (1 : Int) = 1 then 39 else 38) + 3 * (5 - u.read.length) < _
        rw [if_pos rfl]
        omega
      · have e := stRead_0n (s := s) f2 rfl hf f5.1 f5.2
        rw [mu_dead (u := { u with x := x, busy := true }) ((step_read f1).trans e)]
        omega
    · rcases tb.plan.split with hp | ⟨f, g, k, hf, hg, hfg, hp⟩
      · have h4 : nrd u.plan = 4 := by rw [hp]; rfl
        have e9 := asks_commit tb busy alive job (by omega)
        rw [nextR_asks tb.fin e9 tb.fin]
        show mu (stepR s _) < _
        generalize hx : ({ u.x with job := 4, st := 0, i := 0 } : TX) = x
        have f1 : x.job = 4 := by subst hx; rfl
        have f2 : x.st = 0 := by subst hx; rfl
        have f3 : x.ws = [] := by subst hx; exact ws
        have f4 : x.wt = [] := by subst hx; exact tb.wt
        clear hx e9
        have e := stC0r (s := s) f2 f3 f4
        rw [mu_lock (u := { u with x := x, busy := true }) ((step_com f1).trans e) hf0 rfl f1]
        show (if (8 : Int) = 1 then _ else if (8 : Int) = 2 then _ else if (8 : Int) = 3 then _ else if (8 : Int) = 4 then _ else if (8 : Int) = 6 then _ else if (8 : Int) = 7 then _ else 2) < _
        simp
        omega
      · have h2 : nrd u.plan = 2 := by rw [hp]; rfl
        obtain ⟨l, y, e9⟩ := asks_moves tb busy alive job ws i f g k hf hg hfg hp (by omega)
        rw [nextR_asks tb.fin e9 tb.fin]
        show mu (stepR s _) < _
        generalize hx : ({ u.x with ws := y :: l, job := 4, st := 0, i := 0 } : TX) = x
        have f1 : x.job = 4 := by subst hx; rfl
        have f2 : x.st = 0 := by subst hx; rfl
        have f3 : x.ws ≠ [] := by subst hx; exact (fun e => by cases e)
        clear hx e9
        have e := stC0w (s := s) f2 f3
        rw [mu_lock (u := { u with x := x, busy := true, i := u.i + 1 + 1 }) ((step_com f1).trans e) hf0 rfl f1]
        show (if (1 : Int) = 1 then 36 - 2 * 0 else _) < _
        rw [if_pos rfl]
        omega
  | rd1 d pv tb busy alive sure phased job ws old i lt hd at_ hat xi pre st =>
    have e := stRead_1 (s := s) st
    rw [nextR_busy busy hf0, mu_rd hf0 busy job, if_pos st]
    show mu (stepR s u) < _
    rw [stepR_busy ((step_read job).trans (e)), mu_rd (by exact hf0) (by exact busy) (by exact job)]
    show (if (2 : Int) = 1 then 39 else 38) + 3 * (5 - u.read.length) < _
    rw [if_neg (by decide)]
    omega
  | rd2 d pv tb busy alive sure phased job ws old i lt hd at_ hat xi pre st =>
    have hpl := tb.plan.len
    rw [nextR_busy busy hf0, mu_rd hf0 busy job, if_neg (by rw [st]; decide)]
    show mu (stepR s u) < _
    by_cases hc : s.vAt (u.x.stripeP (u.x.m.hash u.x.at_)) = u.x.pre
    · have e := stRead_2y st rfl hc (by rw [xi, tb.wt]; simp)
      have hat' : u.plan.getD (u.i - 1) (false, 0, 0) = (false, d, 0) := by
        rw [i, Nat.add_sub_cancel, List.getD_eq_getElem?_getD, at_]; rfl
      have e2 := stepR_done (s := s) (u := u) ((step_read job).trans e)
      rw [doneR_more (d := d) (z := 0)] at e2
      · rw [e2, mu_btw (by exact hf0) rfl]
        show 40 + 3 * (5 - (u.read ++ [(d, u.x.got)]).length) < _
        rw [List.length_append, List.length_singleton]
        omega
      · show ¬ u.plan.length < u.i
        omega
      · show 0 < u.i
        omega
      · exact hat'
    · have e := stRead_2n st rfl hc old phased
      rw [mu_dead ((step_read job).trans (e))]
      omega
  | lk W cb sure xi lt old st =>
    have tb := cb.tb
    have h3 := rows_le cb.rows
    rw [nextR_busy cb.busy hf0, mu_com hf0 cb.busy cb.job]
    show mu (stepR s u) < _
    rcases st with st | ⟨st, pre⟩
    · rw [if_pos st]
      by_cases hh : 0 ≤ holF (s.vAt (u.x.stripeP (u.x.rows.getD u.x.i 0)))
      · rw [mu_abort ((step_com cb.job).trans (stC1n st rfl hh cb.phased)) hf0 cb.busy rfl rfl]
        omega
      · rw [mu_lock ((step_com cb.job).trans (stC1y st rfl hh)) hf0 cb.busy cb.job]
        show (if (2 : Int) = 1 then 36 - 2 * u.x.i else if (2 : Int) = 2 then 35 - 2 * u.x.i else _) < _
        rw [if_neg (by decide), if_pos rfl]
        omega
    · rw [if_neg (by rw [st]; decide), if_pos st]
      cases hh : s.okAt (u.x.stripeP (u.x.rows.getD u.x.i 0)) u.x.pre with
      | false =>
        rw [mu_abort ((step_com cb.job).trans (stC2n st rfl hh cb.phased)) hf0 cb.busy rfl rfl]
        omega
      | true =>
        by_cases hi : u.x.i + 1 = u.x.rows.length
        · rw [mu_lock ((step_com cb.job).trans (stC2last st rfl hh hi)) hf0 cb.busy cb.job]
          show (if (3 : Int) = 1 then 36 - 2 * (u.x.i + 1) else if (3 : Int) = 2 then 35 - 2 * (u.x.i + 1) else if (3 : Int) = 3 then (if (startB u.x.ck).s = 0 then 26 else 25) else _) < _
          rw [if_neg (by decide), if_neg (by decide), if_pos rfl]
          split <;> omega
        · rw [mu_lock ((step_com cb.job).trans (stC2more st rfl hh hi)) hf0 cb.busy cb.job]
          show (if (1 : Int) = 1 then 36 - 2 * (u.x.i + 1) else _) < _
          rw [if_pos rfl]
          omega
  | bp W q cb sure full old st bump =>
    have tb := cb.tb
    obtain ⟨r2, w2, rne, _⟩ := cb.w.two
    have hrs : u.x.rs ≠ [] := tb.rs.ne (fun e => by rw [e] at r2; cases r2)
    have hws : u.x.ws ≠ [] := fun e => by rw [e] at w2; cases w2
    have hclk := h.wds.clk
    have hcN := h.cN
    have h0 := h.c0
    have hhas : s.has 0 := h.wds.has (by decide) (by decide)
    rw [nextR_busy cb.busy hf0, mu_com hf0 cb.busy cb.job, if_neg (by rw [st]; decide), if_neg (by rw [st]; decide), if_pos st]
    show mu (stepR s u) < _
    have nine : ∀ (b : BD) (s2 : MS), bumpF u.x.m s u.x.bump = (b, s2) → b.s = 9 → b.p ≤ 1000 → mu (stepR s u) ≤ 22 := fun b s2 hb h9 hp => by
      have htop : ¬ u.x.top < b.p := by rw [tb.top]; omega
      by_cases ho : b.k = 1 ∧ b.p = wrap64 (u.x.stamp + 1)
      · rw [mu_lock ((step_com cb.job).trans (stC3own st hb h9 htop ho tb.wt hws)) hf0 cb.busy cb.job]
        show (if (6 : Int) = 1 then _ else if (6 : Int) = 2 then _ else if (6 : Int) = 3 then _ else if (6 : Int) = 4 then _ else if (6 : Int) = 6 then 14 - 0 else _) ≤ 22
        rw [if_neg (by decide), if_neg (by decide), if_neg (by decide), if_neg (by decide), if_pos rfl]
        omega
      · rw [mu_lock ((step_com cb.job).trans (stC3check st hb h9 htop ho hrs)) hf0 cb.busy cb.job]
        show (if (4 : Int) = 1 then _ else if (4 : Int) = 2 then _ else if (4 : Int) = 3 then _ else if (4 : Int) = 4 then 22 - 0 else _) ≤ 22
        rw [if_neg (by decide), if_neg (by decide), if_neg (by decide), if_pos rfl]
        omega
    have hw : wrap64 (A.c + 1) = A.c + 1 := by unfold wrap64; omega
    rcases bump with ⟨rfl, ⟨_, hb⟩ | ⟨hck, hb⟩⟩ | ⟨seen, hsn, rfl, hb⟩
    · have hb1 : bumpF u.x.m s u.x.bump = (⟨1, 9, 0, wrap64 (s.vAt 0 + 1)⟩, s.added 0 1) := by rw [tb.m, hb]; exact bump1
      rw [hclk, hw] at hb1
      have := nine _ _ hb1 rfl (by show A.c + 1 ≤ 1000; omega)
      split <;> omega
    · have hb1 : bumpF u.x.m s u.x.bump = (⟨2, 1, s.vAt 0, 0⟩, s.loaded 0) := by rw [tb.m, hb]; exact bump2
      rw [mu_lock ((step_com cb.job).trans (stC3more st hb1 (show (1 : Int) ≠ 9 by decide))) hf0 cb.busy cb.job, hb]
      show (if u.x.st = 1 then _ else if u.x.st = 2 then _ else if u.x.st = 3 then (if (1 : Int) = 0 then 26 else 25) else _) < if (0 : Int) = 0 then 26 else 25
      rw [if_neg (by rw [st]; decide), if_neg (by rw [st]; decide), if_pos st, if_neg (by decide), if_pos rfl]
      decide
    · have hb1 : bumpF u.x.m s u.x.bump = (if s.okAt 0 seen = true then ⟨2, 9, seen, wrap64 (seen + 1)⟩ else ⟨2, 9, seen, s.vAt 0⟩, s.swapped 0 seen (wrap64 (seen + 1))) := by rw [tb.m, hb]; exact bump3
      rw [ok_iff hhas, hclk] at hb1
      have : mu (stepR s u) ≤ 22 := by
        by_cases hs : A.c = seen
        · rw [if_pos (by simpa using hs), ← hs, hw] at hb1
          exact nine _ _ hb1 rfl (by show A.c + 1 ≤ 1000; omega)
        · rw [if_neg (by simpa using hs)] at hb1
          exact nine _ _ hb1 rfl (by show A.c ≤ 1000; omega)
      split <;> omega
  | ckd W q cb sure full old st lt top val =>
    have tb := cb.tb
    obtain ⟨r2, w2, rne, _⟩ := cb.w.two
    have hl := tb.rs.len
    have hws : u.x.ws ≠ [] := fun e => by rw [e] at w2; cases w2
    rw [nextR_busy cb.busy hf0, mu_com hf0 cb.busy cb.job, if_neg (by rw [st]; decide), if_neg (by rw [st]; decide), if_neg (by rw [st]; decide), if_pos st]
    show mu (stepR s u) < _
    by_cases hh : 0 ≤ holF (s.vAt (u.x.stripeP (u.x.rs.getD u.x.i (0, 0)).1)) ∧ holF (s.vAt (u.x.stripeP (u.x.rs.getD u.x.i (0, 0)).1)) ≠ u.x.th
    · rw [mu_abort ((step_com cb.job).trans (stC4held st rfl hh cb.phased)) hf0 cb.busy rfl rfl]
      omega
    by_cases hv : u.x.stamp < verF (s.vAt (u.x.stripeP (u.x.rs.getD u.x.i (0, 0)).1))
    · rw [mu_abort ((step_com cb.job).trans (stC4stale st rfl hh hv cb.phased)) hf0 cb.busy rfl rfl]
      omega
    by_cases hi : u.x.i + 1 < u.x.rs.length
    · rw [mu_lock ((step_com cb.job).trans (stC4more st rfl hh hv hi)) hf0 cb.busy cb.job]
      show (if u.x.st = 1 then _ else if u.x.st = 2 then _ else if u.x.st = 3 then _ else if u.x.st = 4 then 22 - (u.x.i + 1) else _) < _
      rw [if_neg (by rw [st]; decide), if_neg (by rw [st]; decide), if_neg (by rw [st]; decide), if_pos st]
      omega
    · rw [mu_lock ((step_com cb.job).trans (stC4last st rfl hh hv hi tb.wt hws)) hf0 cb.busy cb.job]
      show (if (6 : Int) = 1 then _ else if (6 : Int) = 2 then _ else if (6 : Int) = 3 then _ else if (6 : Int) = 4 then _ else if (6 : Int) = 6 then 14 - 0 else _) < _
      rw [if_neg (by decide), if_neg (by decide), if_neg (by decide), if_neg (by decide), if_pos rfl]
      omega
  | wr W q S cb st lt top ne =>
    rw [nextR_busy cb.busy hf0, mu_com hf0 cb.busy cb.job, if_neg (by rw [st]; decide), if_neg (by rw [st]; decide), if_neg (by rw [st]; decide), if_neg (by rw [st]; decide), if_pos st]
    show mu (stepR s u) < _
    by_cases hi : u.x.i + 1 = u.x.ws.length
    · rw [mu_lock ((step_com cb.job).trans (stC6last (s := s) st hi)) hf0 cb.busy cb.job]
      show (if (7 : Int) = 1 then _ else if (7 : Int) = 2 then _ else if (7 : Int) = 3 then _ else if (7 : Int) = 4 then _ else if (7 : Int) = 6 then _ else if (7 : Int) = 7 then 11 - 0 else _) < _
      rw [if_neg (by decide), if_neg (by decide), if_neg (by decide), if_neg (by decide), if_neg (by decide), if_pos rfl]
      omega
    · rw [mu_lock ((step_com cb.job).trans (stC6more (s := s) st hi)) hf0 cb.busy cb.job]
      show (if u.x.st = 1 then _ else if u.x.st = 2 then _ else if u.x.st = 3 then _ else if u.x.st = 4 then _ else if u.x.st = 6 then 14 - (u.x.i + 1) else _) < _
      rw [if_neg (by rw [st]; decide), if_neg (by rw [st]; decide), if_neg (by rw [st]; decide), if_neg (by rw [st]; decide), if_pos st]
      omega
  | fr W q S cb st lt top =>
    have h3 := rows_le cb.rows
    rw [nextR_busy cb.busy hf0, mu_com hf0 cb.busy cb.job, if_neg (by rw [st]; decide), if_neg (by rw [st]; decide), if_neg (by rw [st]; decide), if_neg (by rw [st]; decide), if_neg (by rw [st]; decide), if_pos st]
    show mu (stepR s u) < _
    by_cases hi : u.x.i + 1 = u.x.rows.length
    · rw [mu_lock ((step_com cb.job).trans (stC7last (s := s) st rfl hi)) hf0 cb.busy cb.job]
      show (if (8 : Int) = 1 then _ else if (8 : Int) = 2 then _ else if (8 : Int) = 3 then _ else if (8 : Int) = 4 then _ else if (8 : Int) = 6 then _ else if (8 : Int) = 7 then _ else 2) < _
      rw [if_neg (by decide), if_neg (by decide), if_neg (by decide), if_neg (by decide), if_neg (by decide), if_neg (by decide)]
      omega
    · rw [mu_lock ((step_com cb.job).trans (stC7more (s := s) st rfl hi)) hf0 cb.busy cb.job]
      show (if u.x.st = 1 then _ else if u.x.st = 2 then _ else if u.x.st = 3 then _ else if u.x.st = 4 then _ else if u.x.st = 6 then _ else if u.x.st = 7 then 11 - (u.x.i + 1) else _) < _
      rw [if_neg (by rw [st]; decide), if_neg (by rw [st]; decide), if_neg (by rw [st]; decide), if_neg (by rw [st]; decide), if_neg (by rw [st]; decide), if_pos st]
      omega
  | en tb busy job st i so =>
    have hpl := tb.plan.len
    rw [nextR_busy busy hf0, mu_com hf0 busy job, if_neg (by rw [st]; decide), if_neg (by rw [st]; decide), if_neg (by rw [st]; decide), if_neg (by rw [st]; decide), if_neg (by rw [st]; decide), if_neg (by rw [st]; decide)]
    show mu (stepR s u) < _
    rw [mu_done ((step_com job).trans (stC8 (s := s) st)) (by omega)]
    omega
  | un tb busy job phased rows le xi old so =>
    have h3 := rows_le rows
    rw [nextR_busy busy hf0, mu_un hf0 busy job]
    show mu (stepR s u) < _
    by_cases hi : u.x.i < u.x.old.length
    · rw [stepR_busy ((step_undo job).trans (stU_row (s := s) hi phased job rfl)), mu_un (by exact hf0) (by exact busy) (by exact job)]
      show 8 - (u.x.i + 1) < _
      omega
    · rw [mu_dead ((step_undo job).trans (stU_end (s := s) hi))]
      omega
end

end Go.Proofs.Ytjfinnjmcnjciaa
