/-
  An attempt whose watched word turns: whether it is decided by then tells how it ends.
-/
import Derived.Test.YtjfinnjmcnjciaaTqF
namespace Go.Proofs.Ytjfinnjmcnjciaa
open Go.RowKit

theorem abort_sure (x : TX) (c : Int) : (x.abort c).2.sure = x.sure := by unfold TX.abort; split <;> rfl
theorem abort_ws (x : TX) (c : Int) : (x.abort c).2.ws = x.ws := by unfold TX.abort; split <;> rfl
theorem tell_ws (x : TX) : x.tell.ws = x.ws := by unfold TX.tell; split <;> rfl
theorem tell_unsure {x : TX} (h : x.sure = false) (hi : x.i < x.wt.length) : x.tell.sure = false := by unfold TX.tell; rw [if_pos (.inr hi)]; exact h
theorem watchF_ws (s : MS) (x : TX) : (watchF s x).2.1.ws = x.ws ∧ (watchF s x).2.1.sure = x.sure := by unfold watchF; split <;> exact ⟨rfl, rfl⟩
theorem readEnd_ws (x : TX) : (readEnd x).2.ws = x.ws ∧ (readEnd x).2.sure = x.sure := by unfold readEnd; split <;> exact ⟨rfl, rfl⟩
theorem stRead_ws (s : MS) (x : TX) : (stRead s x).2.1.ws = x.ws ∧ (stRead s x).2.1.sure = x.sure := by
  unfold stRead
  by_cases h0 : x.st = 0
  · rw [if_pos h0]
    split
    · exact ⟨abort_ws _ _, abort_sure _ _⟩
    · exact ⟨rfl, rfl⟩
  rw [if_neg h0]
  by_cases h1 : x.st = 1
  · rw [if_pos h1]; exact ⟨rfl, rfl⟩
  rw [if_neg h1]
  by_cases h2 : x.st = 2
  · rw [if_pos h2]
    split
    · exact ⟨abort_ws _ _, abort_sure _ _⟩
    · exact readEnd_ws _
  rw [if_neg h2]
  split
  · exact watchF_ws s x
  · split
    · exact ⟨abort_ws _ _, abort_sure _ _⟩
    · exact ⟨(readEnd_ws _).1.trans (watchF_ws s x).1, (readEnd_ws _).2.trans (watchF_ws s x).2⟩
theorem stCommit_ws (s : MS) (x : TX) : (stCommit s x).2.1.ws = x.ws := by
  unfold stCommit
  by_cases h0 : x.st = 0
  · rw [if_pos h0]; exact tell_ws _
  rw [if_neg h0]
  by_cases h1 : x.st = 1
  · rw [if_pos h1]
    split
    · exact abort_ws _ _
    · rfl
  rw [if_neg h1]
  by_cases h2 : x.st = 2
  · rw [if_pos h2]
    split
    · show (if x.i + 1 = x.rows.length then _ else _ : TX).ws = x.ws
      split <;> rfl
    · exact abort_ws _ _
  rw [if_neg h2]
  by_cases h3 : x.st = 3
  · rw [if_pos h3]
    split
    · rfl
    · split
      · exact abort_ws _ _
      · exact tell_ws _
  rw [if_neg h3]
  by_cases h4 : x.st = 4
  · rw [if_pos h4]
    split
    · exact abort_ws _ _
    · split
      · exact abort_ws _ _
      · show (if x.i + 1 < x.rs.length then _ else _ : TX).ws = x.ws
        split
        · rfl
        · exact tell_ws _
  rw [if_neg h4]
  by_cases h5 : x.st = 5
  · rw [if_pos h5]
    split
    · exact abort_ws _ _
    · exact (tell_ws _).trans (watchF_ws s x).1
  rw [if_neg h5]
  by_cases h6 : x.st = 6
  · rw [if_pos h6]
    show (if x.i + 1 = x.ws.length then _ else _ : TX).ws = x.ws
    split <;> rfl
  rw [if_neg h6]
  by_cases h7 : x.st = 7
  · rw [if_pos h7]
    show (if x.i + 1 = x.rows.length then _ else _ : TX).ws = x.ws
    split <;> rfl
  rw [if_neg h7]
theorem txStep_ws (s : MS) (x : TX) : (txStep s x).2.1.ws = x.ws := by
  unfold txStep
  split
  · rfl
  · split
    · exact (stRead_ws s x).1
    · split
      · exact stCommit_ws s x
      · split
        · unfold stUndo; split <;> rfl
        · rfl
theorem stepR_x (s : MS) (u : RU) : (stepR s u).x = (txStep s u.x).2.1 := by
  unfold stepR doneR
  split
  · split <;> rfl
  · split <;> rfl

section
variable {ck wv : Int} {wt : List Wd} {s : MS} {u : RU} {x : TX}
theorem SX.sure_job (h : SX ck wt wv s x) (hs : x.sure = true) : x.job = 4 ∧ (x.st = 6 ∨ x.st = 7 ∨ x.st = 8) ∧ x.alive = true := by
  cases h with
  | idle b sure => rw [sure] at hs; cases hs
  | rd d b sure => rw [sure] at hs; cases hs
  | c0 b sure => rw [sure] at hs; cases hs
  | lk cx ws sure => rw [sure] at hs; cases hs
  | bp cx ws sure => rw [sure] at hs; cases hs
  | ckd cx ws sure => rw [sure] at hs; cases hs
  | wt cx sure => rw [sure] at hs; cases hs
  | wr cx sure st => exact ⟨cx.job, .inl st, cx.b.alive⟩
  | fr cx ws sure st => exact ⟨cx.job, .inr (.inl st), cx.b.alive⟩
  | en b sure job st => exact ⟨job, .inr (.inr st), b.alive⟩
/-- What is decided stays so. -/
theorem SX.sure_on (h : SX ck wt wv s x) (hs : x.sure = true) : (txStep s x).1 = 1 ∨ (txStep s x).1 = 0 ∧ (txStep s x).2.1.sure = true ∧ (txStep s x).2.1.alive = true := by
  obtain ⟨hj, hst, ha⟩ := h.sure_job hs
  have e : txStep s x = stCommit s x := by unfold txStep; rw [if_neg (by rw [hj]; decide), if_neg (by rw [hj]; decide), if_pos hj]
  rw [e]
  unfold stCommit
  rcases hst with st | st | st
  · rw [if_neg (by rw [st]; decide), if_neg (by rw [st]; decide), if_neg (by rw [st]; decide), if_neg (by rw [st]; decide), if_neg (by rw [st]; decide), if_neg (by rw [st]; decide), if_pos st]
    refine .inr ⟨rfl, ?_⟩
    show (if x.i + 1 = x.ws.length then _ else _ : TX).sure = true ∧ (if x.i + 1 = x.ws.length then _ else _ : TX).alive = true
    split <;> exact ⟨hs, ha⟩
  · rw [if_neg (by rw [st]; decide), if_neg (by rw [st]; decide), if_neg (by rw [st]; decide), if_neg (by rw [st]; decide), if_neg (by rw [st]; decide), if_neg (by rw [st]; decide), if_neg (by rw [st]; decide), if_pos st]
    refine .inr ⟨rfl, ?_⟩
    show (if x.i + 1 = x.rows.length then _ else _ : TX).sure = true ∧ (if x.i + 1 = x.rows.length then _ else _ : TX).alive = true
    split <;> exact ⟨hs, ha⟩
  · rw [if_neg (by rw [st]; decide), if_neg (by rw [st]; decide), if_neg (by rw [st]; decide), if_neg (by rw [st]; decide), if_neg (by rw [st]; decide), if_neg (by rw [st]; decide), if_neg (by rw [st]; decide), if_neg (by rw [st]; decide)]
    exact .inl rfl
/-- Where the watched word has turned, it is not decided any more. -/
theorem SX.unsure_on (h : SX ck [(9, 0)] wv s x) (hv : wv ≠ 0) (hs : x.sure = false) (hjb : x.job = 2 ∨ x.job = 4) : (txStep s x).2.1.sure = false ∧ (x.job = 4 → (txStep s x).1 ≠ 1) := by
  have c4 : x.job = 4 → txStep s x = stCommit s x := fun hj => by unfold txStep; rw [if_neg (by rw [hj]; decide), if_neg (by rw [hj]; decide), if_pos hj]
  have ha : ∀ (y : TX) (c : Int), (y.abort c).1 ≠ 1 := fun y c => by unfold TX.abort; split <;> simp
  have key : ∀ {p : Int × TX × MS}, x.job = 4 → stCommit s x = p → p.2.1.sure = false ∧ p.1 ≠ 1 → (txStep s x).2.1.sure = false ∧ (x.job = 4 → (txStep s x).1 ≠ 1) := fun hj e hh => by rw [c4 hj, e]; exact ⟨hh.1, fun _ => hh.2⟩
  cases h with
  | idle b sure phased j => rcases hjb with hj | hj <;> (rw [j] at hj; cases hj)
  | rd d b sure phased j =>
    refine ⟨?_, fun hj => by rw [j] at hj; cases hj⟩
    have e : txStep s x = stRead s x := by unfold txStep; rw [if_neg (by rw [j]; decide), if_pos j]
    rw [e, (stRead_ws s x).2]
    exact hs
  | c0 b sure phased j old rw0 mem st =>
    refine key j (stC0 st) ⟨tell_unsure hs ?_, by simp⟩
    show 0 < x.wt.length
    rw [b.wt]; decide
  | lk cx ws sure xi lt st mem =>
    rcases st with st | ⟨st, _⟩
    · refine key cx.job rfl ?_
      unfold stCommit
      rw [if_neg (by rw [st]; decide), if_pos st]
      split
      · exact ⟨(abort_sure _ _).trans hs, ha _ _⟩
      · exact ⟨hs, by simp⟩
    · refine key cx.job rfl ?_
      unfold stCommit
      rw [if_neg (by rw [st]; decide), if_neg (by rw [st]; decide), if_pos st]
      split
      · refine ⟨?_, by simp⟩
        show (if x.i + 1 = x.rows.length then _ else _ : TX).sure = false
        split <;> exact hs
      · exact ⟨(abort_sure _ _).trans hs, ha _ _⟩
  | bp cx ws sure full st mem bump =>
    refine key cx.job rfl ?_
    unfold stCommit
    rw [if_neg (by rw [st]; decide), if_neg (by rw [st]; decide), if_neg (by rw [st]; decide), if_pos st]
    split
    · exact ⟨hs, by simp⟩
    · split
      · exact ⟨(abort_sure _ _).trans hs, ha _ _⟩
      · refine ⟨tell_unsure hs ?_, by simp⟩
        show 0 < x.wt.length
        rw [cx.b.wt]; decide
  | ckd cx ws sure full st made lt mem =>
    refine key cx.job rfl ?_
    unfold stCommit
    rw [if_neg (by rw [st]; decide), if_neg (by rw [st]; decide), if_neg (by rw [st]; decide), if_neg (by rw [st]; decide), if_pos st]
    split
    · exact ⟨(abort_sure _ _).trans hs, ha _ _⟩
    · split
      · exact ⟨(abort_sure _ _).trans hs, ha _ _⟩
      · refine ⟨?_, by simp⟩
        show (if x.i + 1 < x.rs.length then _ else _ : TX).sure = false
        split
        · exact hs
        · refine tell_unsure hs ?_
          show 0 < x.wt.length
          rw [cx.b.wt]; decide
  | wt cx sure full st hw xi mem =>
    refine key cx.job (stC5 st) ?_
    have h9 : s.vAt 9 = wv := by
      rcases mem with ⟨_, _, m⟩ | ⟨_, _, m⟩ <;> exact m.wd
    have e2 : (watchF s x).1 = 2 := by rw [watch_x xi cx.b.wt, if_pos (by rw [h9]; exact hv)]
    rw [if_pos e2]
    exact ⟨(abort_sure _ _).trans hs, ha _ _⟩
  | wr cx sure => rw [sure] at hs; cases hs
  | fr cx ws sure => rw [sure] at hs; cases hs
  | en b sure => rw [sure] at hs; cases hs
theorem SA.jobs (h : SA ck wt wv s u) (hb : u.busy = true) : u.x.job = 2 ∨ u.x.job = 4 := by
  rcases h.bz with ⟨_, hh | hh⟩ | ⟨hh, _⟩
  · exact .inl hh.1
  · exact .inr hh.1
  · rw [hb] at hh; cases hh
theorem SA.unsure (h : SA ck wt wv s u) (hb : u.busy = false) : u.x.sure = false := by
  rcases h.bz with ⟨hh, _⟩ | ⟨_, hj⟩
  · rw [hb] at hh; cases hh
  · exact (h.sx.free hj).2.1
/-- What it asks leaves it as undecided as it was. -/
theorem askR_unsure (h : u.x.sure = false) : (askR u).x.sure = false := by
  have e : (askC u).2.sure = false := by
    unfold askC
    split
    · unfold txBegin; split
      · exact h
      · rfl
    · split
      · unfold txCommit; split <;> exact h
      · split
        · unfold txRead
          split
          · split
            · split
              · exact h
              · split
                · exact h
                · exact (abort_sure _ _).trans h
            · exact (abort_sure _ _).trans h
          · exact h
        · unfold txWrite
          split
          · split
            · exact h
            · exact (abort_sure _ _).trans h
          · exact h
  unfold askR tookC doneR
  split
  · split <;> exact e
  · split <;> exact e
theorem asksR_unsure : ∀ (n : Nat) {u : RU}, u.x.sure = false → (asksR n u).x.sure = false
  | 0, _, h => h
  | n + 1, u, h => by
    unfold asksR
    split
    · exact asksR_unsure n (askR_unsure h)
    · exact h
/-- Where the watched word has turned: how one stands that was decided by then (b), or was not. -/
inductive WtI (ck : Int) (b : Bool) (s : MS) (u : RU) : Prop
  | on (h : SA ck [(9, 0)] 1 s u) (hr : u.read.length ≤ u.i) (hs : u.x.sure = b)
  | undo (h : UX 3 1 s u.x) (fin : u.fin = 0) (busy : u.busy = true) (hi : u.i < 100) (hr : u.read.length ≤ u.i) (ws : WsOk u.x.ws) (hb : b = false)
  | done (h : EX 1 s u.x) (fin : u.fin = 1) (hb : b = true)
  | dead (h : DX 3 1 s u.x) (fin : u.fin = 2) (ws : WsOk u.x.ws) (hb : b = false)
variable {b : Bool}
theorem SA.step_wt (hck : ck = 1 ∨ ck = 2) (h : SA ck [(9, 0)] 1 s u) (hr : u.read.length ≤ u.i) (hs : u.x.sure = b) (hb : u.busy = true) : WtI ck b (txStep s u.x).2.2 (stepR s u) ∧ muS (stepR s u) < muS u + 1 ∧ ((stepR s u).fin = 0 → muS (stepR s u) < muS u) := by
  have hn := SA.step (.inr rfl) hck h hb
  have hrl : (stepR s u).read.length ≤ (stepR s u).i := by
    have := nextR_rl (s := s) hr
    rw [nextR_busy hb h.fin] at this
    exact this
  have hil : (stepR s u).i < 100 := by
    have h1 : (stepR s u).i ≤ u.i + 1 := by
      unfold stepR doneR
      split
      · split
        · exact Nat.le_succ _
        · exact Nat.le_refl _
      · split <;> exact Nat.le_succ _
    have := h.i2
    have := h.pl.1
    omega
  have hx := stepR_x s u
  have hws : WsOk (stepR s u).x.ws := by rw [hx, txStep_ws]; exact h.sx.b.ws
  have hj := h.jobs hb
  have hc1 : (txStep s u.x).1 = 1 → (stepR s u).fin ≠ 2 := fun e => by
    unfold stepR
    rw [if_pos e]
    unfold doneR
    split
    · simp
    · show u.fin ≠ 2
      rw [h.fin]; decide
  have hc0 : (txStep s u.x).1 = 0 → (stepR s u).fin = 0 := fun e => by
    unfold stepR
    rw [if_neg (by rw [e]; decide), if_neg (by rw [e]; decide)]
    exact h.fin
  cases b with
  | true =>
    have hon := h.sx.sure_on hs
    generalize stepR s u = v at hn hrl hil hx hws hc1 hc0
    generalize (txStep s u.x).2.2 = s' at hn
    generalize hq : (u : RU) = q at hn
    cases hn with
    | on _ _ h' plan less =>
      subst hq
      refine ⟨.on h' hrl ?_, by omega, fun _ => less⟩
      rcases hon with e | ⟨_, e, _⟩
      · exfalso
        have hj4 := (h.sx.sure_job hs).1
        have hst := (h.sx.sure_job hs).2.1
        have h0 : (txStep s u.x).2.1.alive = true := by rw [← hx]; exact h'.sx.b.alive
        have e4 : txStep s u.x = stCommit s u.x := by unfold txStep; rw [if_neg (by rw [hj4]; decide), if_neg (by rw [hj4]; decide), if_pos hj4]
        rw [e4] at h0 e
        unfold stCommit at h0 e
        rcases hst with st | st | st
        · rw [if_neg (by rw [st]; decide), if_neg (by rw [st]; decide), if_neg (by rw [st]; decide), if_neg (by rw [st]; decide), if_neg (by rw [st]; decide), if_neg (by rw [st]; decide), if_pos st] at e
          cases e
        · rw [if_neg (by rw [st]; decide), if_neg (by rw [st]; decide), if_neg (by rw [st]; decide), if_neg (by rw [st]; decide), if_neg (by rw [st]; decide), if_neg (by rw [st]; decide), if_neg (by rw [st]; decide), if_pos st] at e
          cases e
        · rw [if_neg (by rw [st]; decide), if_neg (by rw [st]; decide), if_neg (by rw [st]; decide), if_neg (by rw [st]; decide), if_neg (by rw [st]; decide), if_neg (by rw [st]; decide), if_neg (by rw [st]; decide), if_neg (by rw [st]; decide)] at h0
          cases h0
      · rw [hx]; exact e
    | undo _ _ h' fin busy hw less =>
      subst hq
      exfalso
      rcases hon with e | ⟨_, _, e⟩
      · have h2 := h'.job
        rw [hx] at h2
        have hj4 := (h.sx.sure_job hs).1
        have hst := (h.sx.sure_job hs).2.1
        have e4 : txStep s u.x = stCommit s u.x := by unfold txStep; rw [if_neg (by rw [hj4]; decide), if_neg (by rw [hj4]; decide), if_pos hj4]
        rw [e4] at h2 e
        unfold stCommit at h2 e
        rcases hst with st | st | st
        · rw [if_neg (by rw [st]; decide), if_neg (by rw [st]; decide), if_neg (by rw [st]; decide), if_neg (by rw [st]; decide), if_neg (by rw [st]; decide), if_neg (by rw [st]; decide), if_pos st] at e
          cases e
        · rw [if_neg (by rw [st]; decide), if_neg (by rw [st]; decide), if_neg (by rw [st]; decide), if_neg (by rw [st]; decide), if_neg (by rw [st]; decide), if_neg (by rw [st]; decide), if_neg (by rw [st]; decide), if_pos st] at e
          cases e
        · rw [if_neg (by rw [st]; decide), if_neg (by rw [st]; decide), if_neg (by rw [st]; decide), if_neg (by rw [st]; decide), if_neg (by rw [st]; decide), if_neg (by rw [st]; decide), if_neg (by rw [st]; decide), if_neg (by rw [st]; decide)] at h2
          cases h2
      · have := h'.alive
        rw [hx, e] at this
        cases this
    | done _ _ h' fin => subst hq; exact ⟨.done h' fin rfl, by rw [muS_fin (by rw [fin]; decide)]; omega, fun h0 => by rw [fin] at h0; cases h0⟩
    | dead _ _ h' fin hw =>
      subst hq
      exfalso
      rcases hon with e | ⟨e, _⟩
      · exact hc1 e fin
      · have := hc0 e
        rw [fin] at this
        cases this
  | false =>
    obtain ⟨hun, hne⟩ := h.sx.unsure_on (by decide) hs hj
    generalize stepR s u = v at hn hrl hil hx hws hc1 hc0
    generalize (txStep s u.x).2.2 = s' at hn
    generalize hq : (u : RU) = q at hn
    cases hn with
    | on _ _ h' plan less => subst hq; exact ⟨.on h' hrl (by rw [hx]; exact hun), by omega, fun _ => less⟩
    | undo _ _ h' fin busy hw less => subst hq; exact ⟨.undo h' fin busy hil hrl hws rfl, by omega, fun _ => less⟩
    | done _ _ h' fin =>
      subst hq
      exfalso
      have := h'.sure
      rw [hx, hun] at this
      cases this
    | dead _ _ h' fin hw => subst hq; exact ⟨.dead h' fin hws rfl, by rw [muS_fin (by rw [fin]; decide)]; omega, fun h0 => by rw [fin] at h0; cases h0⟩

/-- **A pick behind the turn.** -/
theorem WtI.next (hck : ck = 1 ∨ ck = 2) (h : WtI ck b s u) (hf : u.fin = 0) : WtI ck b (nextR s u).2 (nextR s u).1 ∧ muS (nextR s u).1 < muS u + 1 ∧ ((nextR s u).1.fin = 0 → muS (nextR s u).1 < muS u) := by
  cases h with
  | on h hr hs =>
    cases hb : u.busy with
    | true =>
      rw [nextR_busy hb hf]
      exact h.step_wt hck hr hs hb
    | false =>
      obtain ⟨v, e, hv, hvb, hvp, hm⟩ := SA.asks 9 u h hb (by have := h.i1; have := h.pl.1; omega)
      rw [nextR_asks hf e hv.fin]
      have hu := h.unsure hb
      have hvs : v.x.sure = b := by rw [← e, asksR_unsure 9 hu, ← hs, hu]
      have hvr : v.read.length ≤ v.i := by rw [← e]; exact asksR_rl 9 hr
      obtain ⟨h1, h2, h3⟩ := hv.step_wt hck hvr hvs hvb
      exact ⟨h1, by show muS (stepR s v) < _; omega, fun h0 => by have := h3 h0; show muS (stepR s v) < _; omega⟩
  | undo h fin busy hi hr ws hb =>
    have hx : (nextR s u).1.x.ws = u.x.ws := by rw [nextR_busy busy fin]; show (stepR s u).x.ws = _; rw [stepR_x, txStep_ws]
    have hrl := nextR_rl (s := s) hr
    have hil : (nextR s u).1.fin = 0 → (nextR s u).1.i < 100 := fun h0 => by
      rw [nextR_busy busy fin] at h0 ⊢
      show (stepR s u).i < 100
      have h0 : (stepR s u).fin = 0 := h0
      rcases h.step with ⟨y', s', ey, _⟩ | ⟨y', s', ey, _⟩
      · rw [stepR_busy ey]; exact hi
      · rw [stepR_dead ey]; exact hi
    rcases h.next fin busy with ⟨h1, h2, h3, h4⟩ | ⟨h1, h2⟩
    · exact ⟨.undo h1 h2 h3 (hil h2) hrl (by rw [hx]; exact ws) hb, by omega, fun _ => h4⟩
    · exact ⟨.dead h1 h2 (by rw [hx]; exact ws) hb, by rw [muS_fin (by rw [h2]; decide)]; omega, fun h0 => by rw [h2] at h0; cases h0⟩
  | done h fin => rw [hf] at fin; cases fin
  | dead h fin => rw [hf] at fin; cases fin
theorem WtI.pick (h : WtI ck b s u) (hf : u.fin = 0) : ∃ J : RU → Prop, J u ∧ (∀ v, J v → v.busy = false → v.fin = 0 → AskOk v ∧ J (askR v)) ∧ ((asksR 9 u).busy = true ∨ (asksR 9 u).fin ≠ 0) ∧ ((asksR 9 u).fin = 0 → StOk s (asksR 9 u)) := by
  cases h with
  | on h hr => exact h.pick hr
  | undo h fin busy hi hr => exact h.pick fin busy hi hr
  | done h fin => rw [hf] at fin; cases fin
  | dead h fin => rw [hf] at fin; cases fin
theorem WtI.over (hck : ck = 1 ∨ ck = 2) (h : WtI ck b s u) (h0 : muS u = 0) : u.fin ≠ 0 := fun hf => by
  obtain ⟨_, h2, h3⟩ := h.next hck hf
  by_cases e : (nextR s u).1.fin = 0
  · have := h3 e; omega
  · cases h with
    | on h hr => 
      cases hb : u.busy with
      | false => rw [muS_btw hf hb] at h0; omega
      | true =>
        rcases h.jobs hb with hj | hj
        · rw [muS_rd hf hb hj] at h0; omega
        · rw [muS_com hf hb hj, mx_com hj] at h0
          have hsx := h.sx
          cases hsx with
          | idle b sure phased j => rw [j] at hj; cases hj
          | rd d b sure phased j => rw [j] at hj; cases hj
          | c0 b sure phased j old rw0 mem st => rw [if_pos st] at h0; omega
          | lk cx ws sure xi lt st mem =>
            have h4 := rows_le cx.rows
            rcases st with st | ⟨st, _⟩
            · rw [if_neg (by rw [st]; decide), if_pos st] at h0; omega
            · rw [if_neg (by rw [st]; decide), if_neg (by rw [st]; decide), if_pos st] at h0; omega
          | bp cx ws sure full st mem bump => rw [if_neg (by rw [st]; decide), if_neg (by rw [st]; decide), if_neg (by rw [st]; decide), if_pos st] at h0; split at h0 <;> omega
          | ckd cx ws sure full st made lt mem =>
            have := cx.b.rs.1
            rw [if_neg (by rw [st]; decide), if_neg (by rw [st]; decide), if_neg (by rw [st]; decide), if_neg (by rw [st]; decide), if_pos st] at h0; omega
          | wt cx sure full st hw' xi mem => rw [if_neg (by rw [st]; decide), if_neg (by rw [st]; decide), if_neg (by rw [st]; decide), if_neg (by rw [st]; decide), if_neg (by rw [st]; decide), if_pos st] at h0; omega
          | wr cx sure st made lt mem =>
            have := cx.b.ws.len
            rw [if_neg (by rw [st]; decide), if_neg (by rw [st]; decide), if_neg (by rw [st]; decide), if_neg (by rw [st]; decide), if_neg (by rw [st]; decide), if_neg (by rw [st]; decide), if_pos st] at h0; omega
          | fr cx ws sure st made lt mem =>
            have := rows_le cx.rows
            rw [if_neg (by rw [st]; decide), if_neg (by rw [st]; decide), if_neg (by rw [st]; decide), if_neg (by rw [st]; decide), if_neg (by rw [st]; decide), if_neg (by rw [st]; decide), if_neg (by rw [st]; decide), if_pos st] at h0; omega
          | en b sure j st mem => rw [if_neg (by rw [st]; decide), if_neg (by rw [st]; decide), if_neg (by rw [st]; decide), if_neg (by rw [st]; decide), if_neg (by rw [st]; decide), if_neg (by rw [st]; decide), if_neg (by rw [st]; decide), if_neg (by rw [st]; decide)] at h0; omega
    | undo h fin busy => rw [muS_un hf busy h.job] at h0; omega
    | done h fin => rw [hf] at fin; cases fin
    | dead h fin => rw [hf] at fin; cases fin
theorem WsOk.first {ws : List Wd} (h : WsOk ws) {i : Nat} {p : Wd} (hi : ws[i]? = some p) : hasL (ws.take i) p.1 = false := by
  cases hx : hasL (ws.take i) p.1 with
  | false => rfl
  | true =>
    obtain ⟨q, hq, hqx⟩ := List.any_eq_true.1 hx
    have hnd : ((ws.take (i + 1)).map fun p => p.1).Nodup := h.nd.sublist ((List.take_sublist _ _).map _)
    rw [take_more hi, List.map_append] at hnd
    have := (List.nodup_append.1 hnd).2.2 q.1 (List.mem_map.2 ⟨q, hq, rfl⟩) p.1 (by simp)
    exact absurd (by simpa using hqx) this
theorem EX.turned (h : EX wv s x) (v : Int) : EX v (s.stored 9 v) x := ⟨h.alive, h.job, h.sure, h.ws, h.mem.imp (fun h => ⟨h.1, h.2.word v⟩) (fun h => ⟨h.1, h.2.1, h.2.2.1, h.2.2.2.imp fun _ m => m.word v⟩)⟩
/-- What a place of its writes holds in the end. -/
theorem EX.has (h : EX wv s x) {i : Nat} {p : Wd} (hi : x.ws[i]? = some p) : s.vAt p.1 = p.2 := by
  have hm : p ∈ x.ws := List.mem_of_getElem? hi
  obtain ⟨d, hd, hp⟩ := h.ws.one p hm
  rcases h.mem with ⟨e, _⟩ | ⟨_, _, _, fr, m⟩
  · rw [e] at hm; cases hm
  · have h1 := m.dat d hd
    have h3 : datW x.ws d = p.2 := valL_at x.ws i p (dataP d) hi hp (by rw [← hp]; exact WsOk.first h.ws hi)
    rw [hp]
    unfold dataP
    rw [h1, h3]
theorem DX.has {c : Int} (h : DX c wv s x) (hw : WsOk x.ws) {i : Nat} {p : Wd} (hi : x.ws[i]? = some p) : s.vAt p.1 = 0 := by
  obtain ⟨d, hd, hp⟩ := hw.one p (List.mem_of_getElem? hi)
  obtain ⟨c, m⟩ := h.mem
  rw [hp]
  unfold dataP
  rw [m.dat d hd]
theorem UnI.mu {pl : Pl} (h : UnI ck [(9, 0)] pl s u) (hck : ck = 1 ∨ ck = 2) (hf : u.fin = 0) : muS (nextR s u).1 ≤ muS u := by
  cases h with
  | new hw => cases hw
  | on h hr =>
    have hn := SA.next (.inr rfl) hck h
    generalize nextR s u = q at hn
    cases hn with
    | on u' s' h plan less => exact Nat.le_of_lt less
    | undo u' s' h fin busy hw less => exact Nat.le_of_lt less
    | done u' s' h fin => show muS u' ≤ _; rw [muS_fin (by rw [fin]; decide)]; exact Nat.zero_le _
    | dead u' s' h fin hw => show muS u' ≤ _; rw [muS_fin (by rw [fin]; decide)]; exact Nat.zero_le _
  | done h fin => rw [hf] at fin; cases fin
theorem UnI.turned {pl : Pl} (h : UnI ck [(9, 0)] pl s u) : WtI ck u.x.sure (s.stored 9 1) u := by
  cases h with
  | new hw => cases hw
  | on h hr => exact .on (h.turned 1) hr rfl
  | done h fin => exact .done (h.turned 1) fin h.sure
theorem UnI.fin1 {wt : List Wd} {pl : Pl} (h : UnI ck wt pl s u) (hf : u.fin ≠ 0) : u.fin = 1 := by
  cases h with
  | new hw hu => subst hu; exact absurd rfl hf
  | on h hr => exact absurd h.fin hf
  | done h fin => exact fin
theorem WtI.ends (h : WtI ck b s u) (hf : u.fin ≠ 0) : (b = true ∧ EX 1 s u.x ∧ u.fin = 1) ∨ (b = false ∧ DX 3 1 s u.x ∧ u.fin = 2 ∧ WsOk u.x.ws) := by
  cases h with
  | on h hr => exact absurd h.fin hf
  | undo h fin => exact absurd fin hf
  | done h fin hb => exact .inl ⟨hb, h, fin⟩
  | dead h fin ws hb => exact .inr ⟨hb, h, fin, ws⟩
theorem watch_start {pl : Pl} (hck : ck = 1 ∨ ck = 2) (hp : pl.length ≤ 8 ∧ ∀ o ∈ pl, o.2.1 < 4) : ∃ u1 s1, nextR S0 (RU.new 1 ck pl) = (u1, s1) ∧ u1.x.job = 0 ∧ u1.x.wt.length < 100 ∧ UnI ck [(9, 0)] pl s1 { u1 with x := txWatch u1.x 9 0 } ∧ muS { u1 with x := txWatch u1.x 9 0 } ≤ 166 := by
  have h1 := SA.begin (ck := ck) S0_mem hp
  have hbz : (nextR S0 (RU.new 1 ck pl)).1.busy = false := by rw [nextR_new]
  have hr : (nextR S0 (RU.new 1 ck pl)).1.read.length ≤ (nextR S0 (RU.new 1 ck pl)).1.i := nextR_rl (Nat.le_refl _)
  generalize nextR S0 (RU.new 1 ck pl) = q at h1 hbz hr ⊢
  obtain ⟨u1, s1⟩ := q
  obtain ⟨h1, h2, h3⟩ := h1
  have hj : u1.x.job = 0 := by
    rcases h1.bz with ⟨hh, _⟩ | ⟨_, hj⟩
    · rw [hbz] at hh; cases hh
    · exact hj
  obtain ⟨h4, h5⟩ := h1.watch hbz
  exact ⟨u1, s1, rfl, hj, by rw [(h1.sx.free hj).1.wt]; decide, .on h4 hr, by rw [h5]; exact h3⟩
end
theorem lock_calls (V : World) : Calls Try.prog 32 #[.agg #[.int .i64 3, .int .i64 1, .int .i64 3, .int .i64 0, .int .i64 4], .int .i64 0, .int .i64 4] V (fun e w' => e = .returned (.int .i64 9) ∧ Below V.heap.size V w') := by
  have := Lock_any mT 0 4 V; rw [show mT.at_ 3 0 4 = 9 from by decide] at this; exact this
theorem q_200 {j : Nat} (h : j ≤ 200) : wrap64 ((j : Int) + 1) = ((j + 1 : Nat) : Int) := by unfold wrap64; omega
theorem q_m200 {j : Nat} (h : j < 200) : 200 - (intOf (.int .i64 ((j + 1 : Nat) : Int))).toNat < 200 - (intOf (.int .i64 (j : Int))).toNat := by simp [intOf]; omega
theorem q_m60 {j : Nat} (h : j < 60) : 60 - (intOf (.int .i64 ((j + 1 : Nat) : Int))).toNat < 60 - (intOf (.int .i64 (j : Int))).toNat := by simp [intOf]; omega
theorem q_dn {d n : Nat} (h : d < n) (hn : n ≤ 8) : wrap64 ((d : Int) + 1) = ((d + 1 : Nat) : Int) := by unfold wrap64; omega
theorem q_mn {d n : Nat} (h : d < n) : n - (intOf (.int .i64 ((d + 1 : Nat) : Int))).toNat < n - (intOf (.int .i64 (d : Int))).toNat := by simp [intOf]; omega

theorem q_le {N j k : Nat} (a b : Nat) (h : N ≤ a + 10 * j) (hj : j ≤ b) (hk : a + 10 * b ≤ k) : N ≤ k := by omega
theorem q_ten {N j : Nat} (a : Nat) (h : N ≤ a + 10 * j) : N + 10 ≤ a + 10 * (j + 1) := by omega
theorem q_i200 {j : Nat} (h : j < 200) : (j : Int) < 200 := by omega
theorem q_ni200 {j : Nat} (h : ¬ j < 200) : ¬ (j : Int) < 200 := by omega
theorem q_mu1 {a b j : Nat} (h : a < b) (h2 : b + j ≤ 200) : a + (j + 1) ≤ 200 := by omega
theorem q_muo {b j : Nat} (h2 : b + j ≤ 200) (h3 : ¬ j < 200) : b = 0 := by omega
theorem q_pos {d n : Nat} (h : d < n) : 0 < n := by omega
theorem q_0i (d : Nat) : (0 : Int) ≤ (d : Int) := by omega
theorem q_in {d n : Nat} (h : d < n) : (d : Int) < (n : Int) := by omega
theorem q_nin {d n : Nat} (h : ¬ d < n) : ¬ (d : Int) < (n : Int) := by omega
theorem q_eqn {d n : Nat} (h : ¬ d < n) (h2 : d ≤ n) : d = n := by omega
theorem q_p0 {b : Nat} (h : b = 0) (h2 : 0 < b) : False := by omega
theorem q_len8 {α : Type} {l : List α} {d n : Nat} (h : l.length = n) (hn : n ≤ 8) : (l.take d).length ≤ 100 := by rw [List.length_take, h]; omega
theorem q_own {b g : Nat} (h : b + 1 ≤ g) (e : g = b) : False := by omega

end Go.Proofs.Ytjfinnjmcnjciaa
