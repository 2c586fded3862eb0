/-
  An attempt whose watched word turns: whether it is decided by then tells how it ends.
-/
import Derived.Test.YtjfinnjmcnjciaaNqF
namespace Go.Proofs.Ytjfinnjmcnjciaa
open Go.RowKit

/-- What a step comes to, with what it says of the decision. -/
inductive StepY (wt : List Wd) (wv : Int) (x : TX) : Int × TX × MS → Prop
  | on (x' : TX) (s' : MS) (h : SX wt wv s' x') (job : x'.job = x.job) (less : mx x' < mx x) (ws : x'.ws = x.ws) (rs : x'.rs = x.rs) (su : wt = [] ∨ wv = 0 ∨ x'.sure = x.sure) : StepY wt wv x (0, x', s')
  | undo (x' : TX) (s' : MS) (h : UX 3 wv s' x') (hw : wv ≠ 0) (ws : x'.ws = x.ws) (su : x.sure = false) : StepY wt wv x (0, x', s')
  | dead (x' : TX) (s' : MS) (h : DX 3 wv s' x') (hw : wv ≠ 0) (ws : x'.ws = x.ws) (su : x.sure = false) : StepY wt wv x (2, x', s')
  | read (x' : TX) (s' : MS) (h : SX wt wv s' x') (job : x.job = 2) (job' : x'.job = 0) (sure : x'.sure = false) (ws : x'.ws = x.ws) (rs : x'.rs.length ≤ x.rs.length + 1) (su : x.sure = false) : StepY wt wv x (1, x', s')
  | done (x' : TX) (s' : MS) (h : EX wv s' x') (job : x.job = 4) (ws : x'.ws = x.ws) (su : x.sure = true) : StepY wt wv x (1, x', s')
theorem SX.step2 {wt : List Wd} {wv : Int} {s : MS} {x : TX} (hw : WtOk wt) (h : SX wt wv s x) (hj : x.job ≠ 0) : StepY wt wv x (txStep s x) := by
  cases h with
  | idle rs ws k ca ma va dn a g n ok rl mem => exact absurd rfl hj
  | r0 rs ws k ca ma va d g n ok lt hd mem =>
    have e := step_ok (s := s) (y := PA rs ws k wt false ca ma va [4, 5, 3, 12] 0 (dataP d) g n false false) (p := 4) rfl (q := PA rs ws k wt false ca ma va [4, 5, 3, 12] 0 (dataP d) (s.vAt (dataP d)) n false false) (s' := s.loaded (dataP d)) rfl
    rw [show txStep s _ = _ from e]
    exact .on _ _ (.r1 rs ws k ca ma va d (s.vAt (dataP d)) n ok lt hd (mem.load _)) rfl (show 3 < 4 by decide) rfl rfl (.inr (.inr rfl))
  | r1 rs ws k ca ma va d g n ok lt hd mem =>
    have e := step_ok (s := s) (p := 5) rfl (ac5 (i := 0) (seq_PA rs ws k wt false ca ma va [5, 3, 12] 0 (dataP d) g n false false) mem.seq)
    rw [show txStep s _ = _ from e]
    rcases hw with rfl | rfl
    · exact .read _ _ (.idle (putL 32 rs (dataP d) g) ws k ca ma g 0 (dataP d) g n ok (by have := put_len (dataP d) g lt; omega) (mem.load _)) rfl rfl rfl rfl (put_len (dataP d) g lt) rfl
    · exact .on _ _ (.r2 rs ws k ca ma va d g n ok lt hd rfl (mem.load _)) rfl (show 2 < 3 by decide) rfl rfl (.inr (.inr rfl))
  | r2 rs ws k ca ma va d g n ok lt hd hwt mem =>
    subst hwt
    by_cases hv : wv = 0
    · have e := step_ok (s := s) (y := PA rs ws k [(9, 0)] false ca ma va [3, 12] 0 (dataP d) g n false false) (p := 3) rfl (ac3 (i := 0) rfl (mem.wd.trans hv))
      rw [show txStep s _ = _ from e]
      exact .read _ _ (.idle (putL 32 rs (dataP d) g) ws k ca ma g 0 (dataP d) g n ok (by have := put_len (dataP d) g lt; omega) (mem.load _)) rfl rfl rfl rfl (put_len (dataP d) g lt) rfl
    · have e := step_bad (s := s) (y := PA rs ws k [(9, 0)] false ca ma va [3, 12] 0 (dataP d) g n false false) (p := 3) rfl (ac3b (i := 0) rfl (by rw [mem.wd]; exact hv)) (by decide)
      rw [show txStep s _ = _ from e]
      exact .dead _ _ ⟨rfl, rfl, rfl, rfl, mem.load _⟩ hv rfl rfl
  | c0 rs k ca ma va a g n rl mem =>
    have e := step_ok (s := s) (p := 6) rfl (ac6 (i := 0) (ph_PA rs [] k wt false ca ma va [6, 3, 15, 11, 16] 0 a g n false false))
    rw [show txStep s _ = _ from e]
    rcases hw with rfl | rfl
    · exact .on _ _ (.e0 rs k ca ma va a g n rl (mem.phase 2)) rfl (show 20 < 50 by decide) rfl rfl (.inl rfl)
    · exact .on _ _ (.w0 rs k ca ma va a g n rl rfl (mem.phase 2)) rfl (show 40 < 50 by decide) rfl rfl (.inr (.inr rfl))
  | c1 rs p ws k ca ma va a g n ok rl mem =>
    have e := step_ok (s := s) (p := 6) rfl (ac6 (i := 0) (ph_PA rs (p :: ws) k wt false ca ma va [6, 14, 7, 3, 15, 8, 9, 11, 16] 0 a g n false false))
    have e2 : goP [6, 14, 7, 3, 15, 8, 9, 11, 16] { PA rs (p :: ws) k wt false ca ma va [6, 14, 7, 3, 15, 8, 9, 11, 16] 0 a g n false true with dn := 1 } = (0, PA rs (p :: ws) k wt false ca ma va [7, 3, 15, 8, 9, 11, 16] 0 a g n false true) := by
      rw [goP]
      refine (if_neg Bool.false_ne_true).trans ((if_neg (fun h => h rfl)).trans ?_)
      rw [goP]
      refine (if_neg Bool.false_ne_true).trans ((if_neg (fun h => h (if_neg (show ¬ ((14 : Int) = 14 ∧ (1000 : Int) < wrap64 (0 + 2)) by unfold wrap64; omega)))).trans ?_)
      · show goP [7, 3, 15, 8, 9, 11, 16] _ = _
        rw [goP]
        exact if_pos rfl
    have e := (show txStep s (PA rs (p :: ws) k wt false ca ma va [6, 14, 7, 3, 15, 8, 9, 11, 16] 0 a g n false false) = ((goP [6, 14, 7, 3, 15, 8, 9, 11, 16] { PA rs (p :: ws) k wt false ca ma va [6, 14, 7, 3, 15, 8, 9, 11, 16] 0 a g n false true with dn := 1 }).1, (goP [6, 14, 7, 3, 15, 8, 9, 11, 16] { PA rs (p :: ws) k wt false ca ma va [6, 14, 7, 3, 15, 8, 9, 11, 16] 0 a g n false true with dn := 1 }).2, s.stored 13 2) from e)
    rw [e2] at e
    rw [e]
    exact .on _ _ (.cl rs p ws k ca ma va a g n ok rl (mem.phase 2)) rfl (show 70 < 90 by decide) rfl rfl (.inr (.inr rfl))
  | cl rs p ws k ca ma va a g n ok rl mem =>
    obtain ⟨h1, h2⟩ := mem.claim 1
    have e := step_ok (s := s) (p := 7) rfl (ac7 (i := 0) (seq_PA rs (p :: ws) k wt false ca ma va [7, 3, 15, 8, 9, 11, 16] 0 a g n false true) rfl h1)
    rw [show txStep s _ = _ from e]
    rcases hw with rfl | rfl
    · exact .on _ _ (.wr rs (p :: ws) 0 k ca va a g n ok rl (Nat.succ_pos _) h2) rfl (show 40 < 70 by decide) rfl rfl (.inl rfl)
    · exact .on _ _ (.w1 rs p ws k ca va a g n ok rl rfl h2) rfl (show 60 < 70 by decide) rfl rfl (.inr (.inr rfl))
  | w0 rs k ca ma va a g n rl hwt mem =>
    subst hwt
    by_cases hv : wv = 0
    · have e := step_ok (s := s) (y := PA rs [] k [(9, 0)] false ca ma va [3, 15, 11, 16] 0 a g n false true) (p := 3) rfl (ac3 (i := 0) rfl (mem.wd.trans hv))
      rw [show txStep s _ = _ from e]
      exact .on _ _ (.e0 rs k ca ma va a g n rl (mem.load _)) rfl (show 20 < 40 by decide) rfl rfl (.inr (.inl hv))
    · have e := step_bad (s := s) (y := PA rs [] k [(9, 0)] false ca ma va [3, 15, 11, 16] 0 a g n false true) (p := 3) rfl (ac3b (i := 0) rfl (by rw [mem.wd]; exact hv)) (by decide)
      rw [show txStep s _ = _ from e]
      exact .undo _ _ (.b _ _ _ _ _ _ _ _ (mem.load _)) hv rfl rfl
  | w1 rs p ws k ca va a g n ok rl hwt mem =>
    subst hwt
    by_cases hv : wv = 0
    · have e := step_ok (s := s) (y := PA rs (p :: ws) k [(9, 0)] false ca 2 va [3, 15, 8, 9, 11, 16] 0 a g n true true) (p := 3) rfl (ac3 (i := 0) rfl (mem.wd.trans hv))
      rw [show txStep s _ = _ from e]
      exact .on _ _ (.wr rs (p :: ws) 0 k ca va a g n ok rl (Nat.succ_pos _) (mem.load _)) rfl (show 40 < 60 by decide) rfl rfl (.inr (.inl hv))
    · have e := step_bad (s := s) (y := PA rs (p :: ws) k [(9, 0)] false ca 2 va [3, 15, 8, 9, 11, 16] 0 a g n true true) (p := 3) rfl (ac3b (i := 0) rfl (by rw [mem.wd]; exact hv)) (by decide)
      rw [show txStep s _ = _ from e]
      exact .undo _ _ (.a _ _ _ _ _ _ _ _ (mem.load _)) hv rfl rfl
  | wr rs ws i k ca va a g n ok rl lt mem =>
    obtain ⟨⟨k1, v⟩, hp⟩ : ∃ p, ws[i]? = some p := ⟨_, List.getElem?_eq_getElem lt⟩
    obtain ⟨d, hd, hk⟩ := ok.one _ (List.mem_of_getElem? hp)
    have hk : k1 = dataP d := hk
    subst hk
    have hg : ws.getD i (0, 0) = (dataP d, v) := by rw [List.getD_eq_getElem?_getD, hp]; rfl
    have e := step_ok (s := s) (y := PA rs ws k wt true ca 2 va [8, 9, 11, 16] i a g n true true) (p := 8) rfl (q := PA rs ws k wt true ca 2 va [8, 9, 11, 16] i a g n true true) (s' := s.stored (dataP d) v) (by
      show ((0 : Int), _, s.stored (ws.getD i (0, 0)).1 (ws.getD i (0, 0)).2) = _
      rw [hg])
    rw [show txStep s _ = _ from e]
    have hm := mem.data (p := d) v hd (datW (ws.take (i + 1))) (datW_snoc ok hd hp)
    have i8 := ok.len
    by_cases hl : i + 1 < ws.length
    · have e2 : goP [8, 9, 11, 16] (PA rs ws k wt true ca 2 va [8, 9, 11, 16] (i + 1) a g n true true) = (0, PA rs ws k wt true ca 2 va [8, 9, 11, 16] (i + 1) a g n true true) := by
        rw [goP]
        exact if_pos (decide_eq_true hl)
      rw [show goP (PA rs ws k wt true ca 2 va [8, 9, 11, 16] i a g n true true).parts { PA rs ws k wt true ca 2 va [8, 9, 11, 16] i a g n true true with dn := (PA rs ws k wt true ca 2 va [8, 9, 11, 16] i a g n true true).dn + 1 } = _ from e2]
      exact .on _ _ (.wr rs ws (i + 1) k ca va a g n ok rl hl hm) rfl (show 40 - (i + 1) < 40 - i by omega) rfl rfl (.inr (.inr rfl))
    · have e2 : goP [8, 9, 11, 16] (PA rs ws k wt true ca 2 va [8, 9, 11, 16] (i + 1) a g n true true) = (0, PA rs ws k wt true ca 2 va [9, 11, 16] 0 a g n true true) := by
        rw [goP]
        refine (if_neg (by show ¬ decide (i + 1 < ws.length) = true; rw [decide_eq_false hl]; decide)).trans ?_
        rfl
      rw [show goP (PA rs ws k wt true ca 2 va [8, 9, 11, 16] i a g n true true).parts { PA rs ws k wt true ca 2 va [8, 9, 11, 16] i a g n true true with dn := (PA rs ws k wt true ca 2 va [8, 9, 11, 16] i a g n true true).dn + 1 } = _ from e2]
      rw [List.take_of_length_le (by omega)] at hm
      exact .on _ _ (.rl rs ws k ca va a g n ok rl (by intro hn; rw [hn] at lt; exact absurd lt (Nat.not_lt_zero _)) hm) rfl (show 30 < 40 - i by omega) rfl rfl (.inr (.inr rfl))
  | rl rs ws k ca va a g n ok rl ne mem =>
    have e := step_ok (s := s) (p := 9) rfl (ac9 (i := 0) (seq_PA rs ws k wt true ca 2 va [9, 11, 16] 0 a g n true true))
    rw [show txStep s _ = _ from e]
    exact .on _ _ (.e1 rs ws k ca va a g n ok rl ne (mem.seqTo 2)) rfl (show 20 < 30 by decide) rfl rfl (.inr (.inr rfl))
  | e0 rs k ca ma va a g n rl mem =>
    have e := step_ok (s := s) (p := 11) rfl (ac11 (i := 0) (ph_PA rs [] k wt true ca ma va [11, 16] 0 a g n false true))
    rw [show txStep s _ = _ from e]
    exact .done _ _ ⟨rfl, rfl, rfl, ⟨(fun _ h => by cases h), List.nodup_nil, Nat.zero_le _⟩, .inl ⟨rfl, mem.phase 0⟩⟩ rfl rfl rfl
  | e1 rs ws k ca va a g n ok rl ne mem =>
    have e := step_ok (s := s) (p := 11) rfl (ac11 (i := 0) (ph_PA rs ws k wt true ca 2 va [11, 16] 0 a g n false true))
    rw [show txStep s _ = _ from e]
    refine .done _ _ ⟨rfl, rfl, rfl, ok, .inr ⟨ne, rfl, ?_, mem.phase 0⟩⟩ rfl rfl rfl
    show (if ws = [] then _ else (2 : Int)) = 2
    exact if_neg ne


theorem stepR_x (s : MS) (u : RU) : (stepR s u).x = (txStep s u.x).2.1 := by
  unfold stepR doneR
  split
  · split <;> rfl
  · split <;> rfl

theorem UX.ws_on {c wv : Int} {s : MS} {x : TX} (h : UX c wv s x) : (txStep s x).2.1.ws = x.ws := by
  cases h with
  | a rs ws k wt va a g n mem =>
    rw [show txStep s _ = _ from step_ok (s := s) (y := PD rs ws k wt c va [10, 11] a g n true true) (p := 10) rfl (ac10 (i := 0) mT_seq)]
    rfl
  | b rs ws k wt va a g n mem =>
    rw [show txStep s _ = _ from step_ok (s := s) (y := PD rs ws k wt c va [11] a g n false true) (p := 11) rfl (ac11 (i := 0) (mT_phase (t := 1) (by decide)))]
    rfl

theorem UX.dead_ {c wv : Int} {s : MS} {x : TX} (h : UX c wv s x) : x.alive = false := by cases h <;> rfl
section
variable {ck wv : Int} {wt : List Wd} {s : MS} {u : RU} {x : TX}
theorem SX.wsOk (h : SX wt wv s x) : WsOk x.ws := by
  have h0 : WsOk ([] : List Wd) := ⟨(fun _ h => by cases h), List.nodup_nil, Nat.zero_le _⟩
  cases h with
  | idle rs ws k ca ma va dn a g n ok => exact ok
  | r0 rs ws k ca ma va d g n ok => exact ok
  | r1 rs ws k ca ma va d g n ok => exact ok
  | r2 rs ws k ca ma va d g n ok => exact ok
  | c0 => exact h0
  | c1 rs p ws k ca ma va a g n ok => exact ok
  | cl rs p ws k ca ma va a g n ok => exact ok
  | w0 => exact h0
  | w1 rs p ws k ca va a g n ok => exact ok
  | wr rs ws i k ca va a g n ok => exact ok
  | rl rs ws k ca va a g n ok => exact ok
  | e0 => exact h0
  | e1 rs ws k ca va a g n ok => exact ok
theorem SX.wt_eq (h : SX wt wv s x) : x.wt = wt := by cases h <;> rfl
theorem SX.unsure0 (h : SX wt wv s x) (j : x.job = 0) : x.sure = false := by
  have h := h.free j
  cases h
  rfl
theorem SA.jobs (h : SA ck wt wv s u) (hb : u.busy = true) : u.x.job = 2 ∨ u.x.job = 4 := by
  rcases h.bz with ⟨_, hh | hh⟩ | ⟨hh, _⟩
  · exact .inl hh.1
  · exact .inr hh.1
  · rw [hb] at hh; cases hh
theorem SA.unsure (h : SA ck wt wv s u) (hb : u.busy = false) : u.x.sure = false := by
  rcases h.bz with ⟨hh, _⟩ | ⟨_, hj⟩
  · rw [hb] at hh; cases hh
  · exact h.sx.unsure0 hj
theorem SA.asks_unsure : ∀ (n : Nat) (u : RU), SA ck wt wv s u → u.busy = false → (asksR n u).x.sure = false
  | 0, _, h, hb => h.unsure hb
  | n + 1, u, h, hb => by
    obtain ⟨v, e, hv, _, hs, _⟩ := h.ask hb
    rw [asksR_go hb h.fin, e]
    cases hvb : v.busy with
    | true => rw [asksR_busy n hvb]; exact hs
    | false => exact SA.asks_unsure n v hv hvb
/-- What a pick comes to where the watched word has turned. -/
inductive NextY (ck : Int) (u : RU) : RU × MS → Prop
  | on (u' : RU) (s' : MS) (h : SA ck [(9, 0)] 1 s' u') (less : muS u' < muS u) (su : u'.x.sure = u.x.sure) : NextY ck u (u', s')
  | undo (u' : RU) (s' : MS) (h : UX 3 1 s' u'.x) (fin : u'.fin = 0) (busy : u'.busy = true) (less : muS u' < muS u) (hi : u'.i < 100) (ws : WsOk u'.x.ws) (su : u.x.sure = false) : NextY ck u (u', s')
  | done (u' : RU) (s' : MS) (h : EX 1 s' u'.x) (fin : u'.fin = 1) (su : u.x.sure = true) : NextY ck u (u', s')
  | dead (u' : RU) (s' : MS) (h : DX 3 1 s' u'.x) (fin : u'.fin = 2) (ws : WsOk u'.x.ws) (su : u.x.sure = false) : NextY ck u (u', s')
theorem SA.step2 (hck : ck = 1 ∨ ck = 2) (h : SA ck [(9, 0)] 1 s u) (hb : u.busy = true) : NextY ck u (stepR s u, (txStep s u.x).2.2) := by
  have hn := SA.step (.inr rfl) hck h hb
  have hj : u.x.job ≠ 0 := by rcases h.jobs hb with j | j <;> rw [j] <;> decide
  have hy := h.sx.step2 (.inr rfl) hj
  have hw := h.sx.wsOk
  have hi : u.i < 100 := by have := h.i2; have := h.pl.1; omega
  have hjobs := h.jobs hb
  have key : ∀ r : Int × TX × MS, txStep s u.x = r → StepY [(9, 0)] 1 u.x r → NextS ck [(9, 0)] 1 u (stepR s u, r.2.2) → NextY ck u (stepR s u, r.2.2) := by
    intro r hr hy hn
    have hx : (stepR s u).x = r.2.1 := by rw [stepR_x, hr]
    cases hy with
    | on x' s' hs job less hws hrs su =>
      have e := stepR_busy hr
      rw [e] at hn ⊢
      have su : x'.sure = u.x.sure := su.resolve_left (by simp) |>.resolve_left (by decide)
      generalize hv : ({ u with x := x' } : RU) = v at hn ⊢
      generalize hs2 : ((0 : Int), x', s').2.2 = s2 at hn ⊢
      have hvs : v.x.sure = u.x.sure := by rw [← hv]; exact su
      have hvf : v.fin = 0 := by rw [← hv]; exact h.fin
      have hva : v.x.alive = true := by rw [← hv]; exact hs.live
      cases hn with
      | on _ _ h' plan less => exact .on _ _ h' less hvs
      | undo _ _ h' fin busy hw' less => have := h'.dead_; rw [hva] at this; cases this
      | done _ _ h' fin => rw [hvf] at fin; cases fin
      | dead _ _ h' fin hw' => rw [hvf] at fin; cases fin
    | undo x' s' hs hwv hws su =>
      have e := stepR_busy hr
      rw [e] at hn ⊢
      generalize hv : ({ u with x := x' } : RU) = v at hn ⊢
      generalize hs2 : ((0 : Int), x', s').2.2 = s2 at hn ⊢
      have hvf : v.fin = 0 := by rw [← hv]; exact h.fin
      have hva : v.x.alive = false := by rw [← hv]; exact hs.dead_
      have hvw : WsOk v.x.ws := by rw [← hv]; show WsOk x'.ws; rw [hws]; exact hw
      have hvi : v.i < 100 := by rw [← hv]; exact hi
      cases hn with
      | on _ _ h' plan less => have := h'.sx.live; rw [hva] at this; cases this
      | undo _ _ h' fin busy hw' less => exact .undo _ _ h' fin busy less hvi hvw su
      | done _ _ h' fin => rw [hvf] at fin; cases fin
      | dead _ _ h' fin hw' => rw [hvf] at fin; cases fin
    | dead x' s' hs hwv hws su =>
      have e := stepR_dead hr
      rw [e]
      exact .dead _ _ hs rfl (by show WsOk x'.ws; rw [hws]; exact hw) su
    | read x' s' hs job job' sure hws hrs su =>
      have hva : (stepR s u).x.alive = true := by rw [hx]; exact hs.live
      have hvs : (stepR s u).x.sure = false := by rw [hx]; exact sure
      generalize stepR s u = v at hn hva hvs ⊢
      generalize hs2 : ((1 : Int), x', s').2.2 = s2 at hn ⊢
      cases hn with
      | on _ _ h' plan less => exact .on _ _ h' less (hvs.trans su.symm)
      | undo _ _ h' fin busy hw' less => have := h'.dead_; rw [hva] at this; cases this
      | done _ _ h' fin => have := h'.alive; rw [hva] at this; cases this
      | dead _ _ h' fin hw' => have := h'.alive; rw [hva] at this; cases this
    | done x' s' hs job hws su =>
      have hva : (stepR s u).x.alive = false := by rw [hx]; exact hs.alive
      have hvs : (stepR s u).x.sure = true := by rw [hx]; exact hs.sure
      have hvp : (stepR s u).x.parts = [] := by rw [hx]; exact hs.job
      have hv1 : (stepR s u).fin ≠ 2 := by
        rw [stepR_done hr]
        unfold doneR
        split
        · show (1 : Int) ≠ 2; decide
        · show u.fin ≠ 2; rw [h.fin]; decide
      generalize stepR s u = v at hn hva hvs hvp hv1 ⊢
      generalize hs2 : ((1 : Int), x', s').2.2 = s2 at hn ⊢
      cases hn with
      | on _ _ h' plan less => have := h'.sx.live; rw [hva] at this; cases this
      | undo _ _ h' fin busy hw' less => have := h'.len; rw [hvp] at this; exact absurd this.1 (by decide)
      | done _ _ h' fin => exact .done _ _ h' fin su
      | dead _ _ h' fin hw' => exact absurd fin hv1
  exact key _ rfl hy hn
theorem SA.next2 (hck : ck = 1 ∨ ck = 2) (h : SA ck [(9, 0)] 1 s u) : NextY ck u (nextR s u) := by
  cases hb : u.busy with
  | true =>
    rw [nextR_busy hb h.fin]
    exact h.step2 hck hb
  | false =>
    obtain ⟨v, e, hv, hvb, hvp, hm⟩ := SA.asks 9 u h hb (by have := h.i1; have := h.pl.1; omega)
    rw [nextR_asks h.fin e hv.fin]
    have hu := h.unsure hb
    have hvs : v.x.sure = false := by rw [← e]; exact SA.asks_unsure 9 u h hb
    have := hv.step2 hck hvb
    generalize (stepR s v, (txStep s v.x).2.2) = r at this
    cases this with
    | on u' s' h' less su => exact .on _ _ h' (Nat.lt_trans less hm) (by rw [su, hvs, hu])
    | undo u' s' h' fin busy less hi ws su => exact .undo _ _ h' fin busy (Nat.lt_trans less hm) hi ws hu
    | done u' s' h' fin su => rw [hvs] at su; cases su
    | dead u' s' h' fin ws su => exact .dead _ _ h' fin ws hu
/-- Where the watched word has turned: how one stands that was decided by then (b), or was not. -/
inductive WtI (ck : Int) (b : Bool) (s : MS) (u : RU) : Prop
  | on (h : SA ck [(9, 0)] 1 s u) (hr : u.read.length ≤ u.i) (hs : u.x.sure = b)
  | undo (h : UX 3 1 s u.x) (fin : u.fin = 0) (busy : u.busy = true) (hi : u.i < 100) (hr : u.read.length ≤ u.i) (ws : WsOk u.x.ws) (hb : b = false)
  | done (h : EX 1 s u.x) (fin : u.fin = 1) (hb : b = true)
  | dead (h : DX 3 1 s u.x) (fin : u.fin = 2) (ws : WsOk u.x.ws) (hb : b = false)
variable {b : Bool}
/-- **A pick behind the turn.** -/
theorem WtI.next (hck : ck = 1 ∨ ck = 2) (h : WtI ck b s u) (hf : u.fin = 0) : WtI ck b (nextR s u).2 (nextR s u).1 ∧ muS (nextR s u).1 < muS u + 1 ∧ ((nextR s u).1.fin = 0 → muS (nextR s u).1 < muS u) := by
  cases h with
  | on h hr hs =>
    have hn := SA.next2 hck h
    have hr2 := nextR_rl (s := s) hr
    generalize nextR s u = q at hn hr2
    cases hn with
    | on u' s' h' less su => exact ⟨.on h' hr2 (su.trans hs), Nat.lt_succ_of_lt less, fun _ => less⟩
    | undo u' s' h' fin busy less hi ws su => exact ⟨.undo h' fin busy hi hr2 ws (by rw [← hs]; exact su), Nat.lt_succ_of_lt less, fun _ => less⟩
    | done u' s' h' fin su => exact ⟨.done h' fin (by rw [← hs]; exact su), by show muS u' < _; rw [muS_fin (by rw [fin]; decide)]; omega, fun h0 => by have h0 : u'.fin = 0 := h0; rw [fin] at h0; cases h0⟩
    | dead u' s' h' fin ws su => exact ⟨.dead h' fin ws (by rw [← hs]; exact su), by show muS u' < _; rw [muS_fin (by rw [fin]; decide)]; omega, fun h0 => by have h0 : u'.fin = 0 := h0; rw [fin] at h0; cases h0⟩
  | undo h fin busy hi hr ws hb =>
    have hx : (nextR s u).1.x.ws = u.x.ws := by rw [nextR_busy busy fin]; show (stepR s u).x.ws = _; rw [stepR_x, h.ws_on]
    have hrl := nextR_rl (s := s) hr
    have hil : (nextR s u).1.fin = 0 → (nextR s u).1.i < 100 := fun h0 => by
      rw [nextR_busy busy fin] at h0 ⊢
      show (stepR s u).i < 100
      have h0 : (stepR s u).fin = 0 := h0
      rcases h.step with ⟨y', s', ey, _⟩ | ⟨y', s', ey, _⟩
      · rw [stepR_busy ey]; exact hi
      · rw [stepR_dead ey]; exact hi
    rcases h.next fin busy with ⟨h1, h2, h3, h4⟩ | ⟨h1, h2⟩
    · exact ⟨.undo h1 h2 h3 (hil h2) hrl (by rw [hx]; exact ws) hb, by omega, fun _ => h4⟩
    · exact ⟨.dead h1 h2 (by rw [hx]; exact ws) hb, by rw [muS_fin (by rw [h2]; decide)]; omega, fun h0 => by rw [h2] at h0; cases h0⟩
  | done h fin => rw [hf] at fin; cases fin
  | dead h fin => rw [hf] at fin; cases fin
theorem WtI.pick (h : WtI ck b s u) (hf : u.fin = 0) : ∃ J : RU → Prop, J u ∧ (∀ v, J v → v.busy = false → v.fin = 0 → AskOk v ∧ J (askR v)) ∧ ((asksR 9 u).busy = true ∨ (asksR 9 u).fin ≠ 0) ∧ ((asksR 9 u).fin = 0 → StOk s (asksR 9 u)) := by
  cases h with
  | on h hr => exact h.pick hr
  | undo h fin busy hi hr => exact h.pick fin busy hi hr
  | done h fin => rw [hf] at fin; cases fin
  | dead h fin => rw [hf] at fin; cases fin
theorem WtI.over (hck : ck = 1 ∨ ck = 2) (h : WtI ck b s u) (h0 : muS u = 0) : u.fin ≠ 0 := fun hf => by
  cases h with
  | on h hr =>
    cases hb : u.busy with
    | false => rw [muS_btw hf hb] at h0; omega
    | true =>
      rcases h.jobs hb with hj | hj
      · rw [muS_rd hf hb hj] at h0; omega
      · rw [muS_com hf hb hj] at h0
        have := h.sx.mx_ge hj
        omega
  | undo h fin busy =>
    rw [muS_un hf busy h.job] at h0
    have := h.len
    omega
  | done h fin => rw [hf] at fin; cases fin
  | dead h fin => rw [hf] at fin; cases fin
theorem WsOk.first {ws : List Wd} (h : WsOk ws) {i : Nat} {p : Wd} (hi : ws[i]? = some p) : hasL (ws.take i) p.1 = false := by
  cases hx : hasL (ws.take i) p.1 with
  | false => rfl
  | true =>
    obtain ⟨q, hq, hqx⟩ := List.any_eq_true.1 hx
    have hnd : ((ws.take (i + 1)).map fun p => p.1).Nodup := h.nd.sublist ((List.take_sublist _ _).map _)
    rw [take_more hi, List.map_append] at hnd
    have := (List.nodup_append.1 hnd).2.2 q.1 (List.mem_map.2 ⟨q, hq, rfl⟩) p.1 (by simp)
    exact absurd (by simpa using hqx) this
theorem EX.turned (h : EX wv s x) (v : Int) : EX v (s.stored 9 v) x := ⟨h.alive, h.job, h.sure, h.ws, h.mem.imp (fun h => ⟨h.1, h.2.word v⟩) (fun h => ⟨h.1, h.2.1, h.2.2.1, h.2.2.2.word v⟩)⟩
/-- What a place of its writes holds in the end. -/
theorem EX.has (h : EX wv s x) {i : Nat} {p : Wd} (hi : x.ws[i]? = some p) : s.vAt p.1 = p.2 := by
  have hm : p ∈ x.ws := List.mem_of_getElem? hi
  obtain ⟨d, hd, hp⟩ := h.ws.one p hm
  rcases h.mem with ⟨e, _⟩ | ⟨_, _, _, m⟩
  · rw [e] at hm; cases hm
  · have h1 := m.dat d hd
    have h3 : datW x.ws d = p.2 := valL_at x.ws i p (dataP d) hi hp (by rw [← hp]; exact WsOk.first h.ws hi)
    rw [hp]
    unfold dataP
    rw [h1, h3]
theorem DX.has {c : Int} (h : DX c wv s x) (hw : WsOk x.ws) {i : Nat} {p : Wd} (hi : x.ws[i]? = some p) : s.vAt p.1 = 0 := by
  obtain ⟨d, hd, hp⟩ := hw.one p (List.mem_of_getElem? hi)
  have m := h.mem
  rw [hp]
  unfold dataP
  rw [m.dat d hd]
theorem UnI.mu {pl : Pl} (h : UnI ck [(9, 0)] pl s u) (hck : ck = 1 ∨ ck = 2) (hf : u.fin = 0) : muS (nextR s u).1 ≤ muS u := by
  cases h with
  | new hw => cases hw
  | on h hr =>
    have hn := SA.next (.inr rfl) hck h
    generalize nextR s u = q at hn
    cases hn with
    | on u' s' h plan less => exact Nat.le_of_lt less
    | undo u' s' h fin busy hw less => exact Nat.le_of_lt less
    | done u' s' h fin => show muS u' ≤ _; rw [muS_fin (by rw [fin]; decide)]; exact Nat.zero_le _
    | dead u' s' h fin hw => show muS u' ≤ _; rw [muS_fin (by rw [fin]; decide)]; exact Nat.zero_le _
  | done h fin => rw [hf] at fin; cases fin
theorem UnI.turned {pl : Pl} (h : UnI ck [(9, 0)] pl s u) : WtI ck u.x.sure (s.stored 9 1) u := by
  cases h with
  | new hw => cases hw
  | on h hr => exact .on (h.turned 1) hr rfl
  | done h fin => exact .done (h.turned 1) fin h.sure
theorem UnI.fin1 {wt : List Wd} {pl : Pl} (h : UnI ck wt pl s u) (hf : u.fin ≠ 0) : u.fin = 1 := by
  cases h with
  | new hw hu => subst hu; exact absurd rfl hf
  | on h hr => exact absurd h.fin hf
  | done h fin => exact fin
theorem WtI.ends (h : WtI ck b s u) (hf : u.fin ≠ 0) : (b = true ∧ EX 1 s u.x ∧ u.fin = 1) ∨ (b = false ∧ DX 3 1 s u.x ∧ u.fin = 2 ∧ WsOk u.x.ws) := by
  cases h with
  | on h hr => exact absurd h.fin hf
  | undo h fin => exact absurd fin hf
  | done h fin hb => exact .inl ⟨hb, h, fin⟩
  | dead h fin ws hb => exact .inr ⟨hb, h, fin, ws⟩
theorem watch_start {pl : Pl} (hck : ck = 1 ∨ ck = 2) (hp : pl.length ≤ 8 ∧ ∀ o ∈ pl, o.2.1 < 4) : ∃ u1 s1, nextR S0 (RU.new 1 ck pl) = (u1, s1) ∧ u1.x.wt.length < 100 ∧ UnI ck [(9, 0)] pl s1 { u1 with x := txWatch u1.x 9 0 } ∧ muS { u1 with x := txWatch u1.x 9 0 } ≤ 166 := by
  have h1 := SA.begin (ck := ck) S0_mem hp
  have hbz : (nextR S0 (RU.new 1 ck pl)).1.busy = false := by rw [nextR_new S0_mem.seq]; rfl
  have hr : (nextR S0 (RU.new 1 ck pl)).1.read.length ≤ (nextR S0 (RU.new 1 ck pl)).1.i := nextR_rl (Nat.le_refl _)
  generalize nextR S0 (RU.new 1 ck pl) = q at h1 hbz hr ⊢
  obtain ⟨u1, s1⟩ := q
  obtain ⟨h1, h2, h3⟩ := h1
  have hj : u1.x.job = 0 := by
    rcases h1.bz with ⟨hh, _⟩ | ⟨_, hj⟩
    · rw [hbz] at hh; cases hh
    · exact hj
  obtain ⟨h4, h5⟩ := h1.watch hbz
  exact ⟨u1, s1, rfl, by rw [h1.sx.wt_eq]; decide, .on h4 hr, by rw [h5]; exact h3⟩
end
theorem lock_calls (V : World) : Calls Try.prog 32 #[.agg #[.int .i64 3, .int .i64 1, .int .i64 3, .int .i64 0, .int .i64 4], .int .i64 0, .int .i64 4] V (fun e w' => e = .returned (.int .i64 9) ∧ Below V.heap.size V w') := by
  have := Lock_any mT 0 4 V; rw [show mT.at_ 3 0 4 = 9 from by decide] at this; exact this
theorem q_200 {j : Nat} (h : j ≤ 200) : wrap64 ((j : Int) + 1) = ((j + 1 : Nat) : Int) := by unfold wrap64; omega
theorem q_m200 {j : Nat} (h : j < 200) : 200 - (intOf (.int .i64 ((j + 1 : Nat) : Int))).toNat < 200 - (intOf (.int .i64 (j : Int))).toNat := by simp [intOf]; omega
theorem q_m60 {j : Nat} (h : j < 60) : 60 - (intOf (.int .i64 ((j + 1 : Nat) : Int))).toNat < 60 - (intOf (.int .i64 (j : Int))).toNat := by simp [intOf]; omega
theorem q_dn {d n : Nat} (h : d < n) (hn : n ≤ 8) : wrap64 ((d : Int) + 1) = ((d + 1 : Nat) : Int) := by unfold wrap64; omega
theorem q_mn {d n : Nat} (h : d < n) : n - (intOf (.int .i64 ((d + 1 : Nat) : Int))).toNat < n - (intOf (.int .i64 (d : Int))).toNat := by simp [intOf]; omega

theorem q_le {N j k : Nat} (a b : Nat) (h : N ≤ a + 10 * j) (hj : j ≤ b) (hk : a + 10 * b ≤ k) : N ≤ k := by omega
theorem q_ten {N j : Nat} (a : Nat) (h : N ≤ a + 10 * j) : N + 10 ≤ a + 10 * (j + 1) := by omega
theorem q_i200 {j : Nat} (h : j < 200) : (j : Int) < 200 := by omega
theorem q_ni200 {j : Nat} (h : ¬ j < 200) : ¬ (j : Int) < 200 := by omega
theorem q_mu1 {a b j : Nat} (h : a < b) (h2 : b + j ≤ 200) : a + (j + 1) ≤ 200 := by omega
theorem q_muo {b j : Nat} (h2 : b + j ≤ 200) (h3 : ¬ j < 200) : b = 0 := by omega
theorem q_pos {d n : Nat} (h : d < n) : 0 < n := by omega
theorem q_0i (d : Nat) : (0 : Int) ≤ (d : Int) := by omega
theorem q_in {d n : Nat} (h : d < n) : (d : Int) < (n : Int) := by omega
theorem q_nin {d n : Nat} (h : ¬ d < n) : ¬ (d : Int) < (n : Int) := by omega
theorem q_eqn {d n : Nat} (h : ¬ d < n) (h2 : d ≤ n) : d = n := by omega
theorem q_pb {b : Nat} (h : b = 0) (h2 : 0 < b) : False := by omega
theorem q_len8 {α : Type} {l : List α} {d n : Nat} (h : l.length = n) (hn : n ≤ 8) : (l.take d).length ≤ 100 := by rw [List.length_take, h]; omega
theorem q_own {b g : Nat} (h : b + 1 ≤ g) (e : g = b) : False := by omega

end Go.Proofs.Ytjfinnjmcnjciaa
