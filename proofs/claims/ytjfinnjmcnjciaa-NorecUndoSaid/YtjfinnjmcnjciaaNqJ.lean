/-
  An attempt alone: its run, pick by pick, in plain words.
-/
import Derived.Test.YtjfinnjmcnjciaaNqP
namespace Go.Proofs.Ytjfinnjmcnjciaa
open Go.RowKit

theorem asksR_busy (n : Nat) {u : RU} (h : u.busy = true) : asksR n u = u := asksR_stop (.inl h)
theorem asksR_go {n : Nat} {u : RU} (h : u.busy = false) (hf : u.fin = 0) : asksR (n + 1) u = asksR n (askR u) := asksR_more h hf
theorem nextR_busy {s : MS} {u : RU} (h : u.busy = true) (hf : u.fin = 0) : nextR s u = (stepR s u, (txStep s u.x).2.2) := by
  unfold nextR
  rw [asksR_busy 9 h, if_neg (by rw [hf]; decide), if_neg (by rw [hf]; decide)]
theorem nextR_over {s : MS} {u : RU} (h : u.fin ≠ 0) : nextR s u = (u, s) := by unfold nextR; rw [if_pos h]
theorem nextR_asks {s : MS} {u v : RU} (hf : u.fin = 0) (ha : asksR 9 u = v) (hb : v.fin = 0) : nextR s u = (stepR s v, (txStep s v.x).2.2) := by
  unfold nextR
  rw [ha, if_neg (by rw [hf]; decide), if_neg (by rw [hb]; decide)]
theorem stepR_busy {s : MS} {u : RU} {x : TX} {s' : MS} (h : txStep s u.x = (0, x, s')) : stepR s u = { u with x := x } := by
  unfold stepR
  rw [h]
  rfl
theorem stepR_dead {s : MS} {u : RU} {x : TX} {s' : MS} (h : txStep s u.x = (2, x, s')) : stepR s u = { u with x := x, fin := 2 } := by
  unfold stepR
  rw [h]
  rfl
theorem stepR_done {s : MS} {u : RU} {x : TX} {s' : MS} (h : txStep s u.x = (1, x, s')) : stepR s u = doneR { u with x := x } := by
  unfold stepR
  rw [h]
  rfl
theorem doneR_more {u : RU} (h : ¬ u.plan.length < u.i) {d : Nat} {z : Int} (h0 : 0 < u.i) (ha : u.plan.getD (u.i - 1) (false, 0, 0) = (false, d, z)) : doneR u = { u with busy := false, read := u.read ++ [(d, u.x.val)], i := u.i + 1 } := by
  unfold doneR
  rw [if_neg h, if_pos ⟨h0, by rw [ha]⟩, ha]
theorem doneR_wrote {u : RU} (h : ¬ u.plan.length < u.i) {d : Nat} {z : Int} (ha : u.plan.getD (u.i - 1) (false, 0, 0) = (true, d, z)) : doneR u = { u with busy := false, i := u.i + 1 } := by
  unfold doneR
  rw [if_neg h, if_neg (by rw [ha]; simp)]
theorem doneR_end {u : RU} (h : u.plan.length < u.i) : doneR u = { u with busy := false, fin := 1 } := by
  unfold doneR
  rw [if_pos h]
/-- An attempt that has not begun. -/
def RU.new (t : Nat) (ck : Int) (p : Pl) : RU := ⟨PT.new mT t 32 32 1000, p, 0, false, 0, []⟩
/-- It has. -/
def RU.first (p : Pl) : RU := ⟨PA [] [] 0 [] false 0 0 0 [] 0 0 0 0 false false, p, 1, false, 0, []⟩
def BT : PT := ⟨mT, 1, 1000, 32, 32, [], [], 0, [], true, false, 0, 0, 0, 0, [0, 13], 0, 0, 0, 0, false, false⟩
theorem askR_new (ck : Int) (p : Pl) : askR (RU.new 1 ck p) = ⟨BT, p, 0, true, 0, []⟩ := rfl
theorem asksR_new (ck : Int) (p : Pl) : asksR 9 (RU.new 1 ck p) = ⟨BT, p, 0, true, 0, []⟩ := (asksR_go (n := 8) rfl rfl).trans ((congrArg (asksR 8) (askR_new ck p)).trans (asksR_busy 8 rfl))
theorem step_BT {s : MS} (h : s.vAt 1 = 0) : txStep s BT = (1, PA [] [] 0 [] false 0 0 0 [] 0 0 0 0 false false, s.loaded 1) := by
  have e := step_ok (s := s) (y := BT) (p := 0) (q := BT) (s' := s.loaded 1) rfl (by
    show ((0 : Int), { BT with now := s.vAt BT.seqP }, s.loaded BT.seqP) = _
    rw [show BT.seqP = 1 from mT_seq, h]
    rfl)
  exact e
theorem nextR_new {s : MS} (h : s.vAt 1 = 0) (ck : Int) (p : Pl) : nextR s (RU.new 1 ck p) = (RU.first p, s.loaded 1) := by
  rw [nextR_asks rfl (asksR_new ck p) rfl]
  have e := step_BT h
  rw [stepR_done (u := ⟨BT, p, 0, true, 0, []⟩) e]
  show (_, (txStep s BT).2.2) = _
  rw [e]
  have hd : ¬ p.length < 0 := Nat.not_lt_zero _
  unfold doneR
  rw [if_neg (show ¬ (p.length < 0) from hd)]
  rfl

structure SA (ck : Int) (wt : List Wd) (wv : Int) (s : MS) (u : RU) : Prop where
  sx : SX wt wv s u.x
  fin : u.fin = 0
  i1 : 1 ≤ u.i
  i2 : u.i ≤ u.plan.length + 1
  pl : u.plan.length ≤ 8 ∧ ∀ o ∈ u.plan, o.2.1 < 4
  wl : u.x.ws.length + 1 ≤ u.i
  rl : u.x.rs.length + 1 ≤ u.i
  bz : u.busy = true ∧ (u.x.job = 2 ∧ u.i ≤ u.plan.length ∧ (u.plan.getD (u.i - 1) (false, 0, 0)).1 = false ∨ u.x.job = 4 ∧ u.i = u.plan.length + 1) ∨ u.busy = false ∧ u.x.job = 0
def muS (u : RU) : Nat :=
  if u.fin ≠ 0 then 0
  else if u.busy = false then 6 * (u.plan.length + 1 - u.i) + 100
  else if u.x.job = 2 then 6 * (u.plan.length + 1 - u.i) + 95 + mx u.x
  else if u.x.job = 5 then u.x.parts.length
  else mx u.x
theorem muS_fin {u : RU} (h : u.fin ≠ 0) : muS u = 0 := if_pos h
theorem muS_btw {u : RU} (h : u.fin = 0) (b : u.busy = false) : muS u = 6 * (u.plan.length + 1 - u.i) + 100 := by unfold muS; rw [if_neg (by rw [h]; decide), if_pos b]
theorem muS_rd {u : RU} (h : u.fin = 0) (b : u.busy = true) (j : u.x.job = 2) : muS u = 6 * (u.plan.length + 1 - u.i) + 95 + mx u.x := by unfold muS; rw [if_neg (by rw [h]; decide), if_neg (by rw [b]; decide), if_pos j]
theorem muS_un {u : RU} (h : u.fin = 0) (b : u.busy = true) (j : u.x.job = 5) : muS u = u.x.parts.length := by unfold muS; rw [if_neg (by rw [h]; decide), if_neg (by rw [b]; decide), if_neg (by rw [j]; decide), if_pos j]
theorem muS_com {u : RU} (h : u.fin = 0) (b : u.busy = true) (j : u.x.job = 4) : muS u = mx u.x := by unfold muS; rw [if_neg (by rw [h]; decide), if_neg (by rw [b]; decide), if_neg (by rw [j]; decide), if_neg (by rw [j]; decide)]
theorem UX.job {c wv : Int} {s : MS} {x : TX} (h : UX c wv s x) : x.job = 5 := by cases h <;> rfl
theorem UX.len {c wv : Int} {s : MS} {x : TX} (h : UX c wv s x) : 1 ≤ x.parts.length ∧ x.parts.length ≤ 2 := by cases h <;> exact ⟨(by show 1 ≤ _ + 1; omega), (by show _ + 1 ≤ 2; first | exact Nat.le_refl 2 | (show 1 ≤ 2; decide))⟩

section
variable {ck wv : Int} {wt : List Wd} {s : MS} {u : RU}
/-- Nothing is under way. -/
inductive Idle (wt : List Wd) (wv : Int) (s : MS) : TX → Prop
  | mk (rs ws : List Wd) (k : Nat) (ca ma va : Int) (dn : Nat) (a g n : Int) (ok : WsOk ws) (rl : rs.length ≤ 8) (mem : Mem0 s 0 wv zeroD 0) : Idle wt wv s (PA rs ws k wt false ca ma va [] dn a g n false false)
theorem SX.free {x : TX} (h : SX wt wv s x) (j : x.job = 0) : Idle wt wv s x := by
  have two : ¬ (2 : Int) = 0 := by decide
  have four : ¬ (4 : Int) = 0 := by decide
  cases h with
  | idle rs ws k ca ma va dn a g n ok rl mem => exact ⟨rs, ws, k, ca, ma, va, dn, a, g, n, ok, rl, mem⟩
  | r0 => exact absurd j two
  | r1 => exact absurd j two
  | r2 => exact absurd j two
  | _ => exact absurd j four
theorem SX.live {x : TX} (h : SX wt wv s x) : x.alive = true := by cases h <;> rfl
theorem SX.mx_le {x : TX} (h : SX wt wv s x) (j : x.job = 2) : mx x ≤ 4 := by
  have four : ¬ (4 : Int) = 2 := by decide
  have zero : ¬ (0 : Int) = 2 := by decide
  cases h with
  | idle => exact absurd j zero
  | r0 => exact Nat.le_refl 4
  | r1 => show 3 ≤ 4; decide
  | r2 => show 2 ≤ 4; decide
  | _ => exact absurd j four
theorem SX.mx_ge {x : TX} (h : SX wt wv s x) (j : x.job = 4) : 20 ≤ mx x ∧ mx x ≤ 90 := by
  have two : ¬ (2 : Int) = 4 := by decide
  have zero : ¬ (0 : Int) = 4 := by decide
  cases h with
  | idle => exact absurd j zero
  | r0 => exact absurd j two
  | r1 => exact absurd j two
  | r2 => exact absurd j two
  | c0 => show 20 ≤ 50 ∧ 50 ≤ 90; decide
  | c1 => show 20 ≤ 90 ∧ 90 ≤ 90; decide
  | cl => show 20 ≤ 70 ∧ 70 ≤ 90; decide
  | w0 => show 20 ≤ 40 ∧ 40 ≤ 90; decide
  | w1 => show 20 ≤ 60 ∧ 60 ≤ 90; decide
  | wr rs ws i k ca va a g n ok rl lt mem => have := ok.len; show 20 ≤ 40 - i ∧ 40 - i ≤ 90; omega
  | rl => show 20 ≤ 30 ∧ 30 ≤ 90; decide
  | e0 => show 20 ≤ 20 ∧ 20 ≤ 90; decide
  | e1 => show 20 ≤ 20 ∧ 20 ≤ 90; decide

theorem ask_com {rs ws : List Wd} {k : Nat} {ca ma va : Int} {dn : Nat} {a g n : Int} (ok : WsOk ws) (rl : rs.length ≤ 8) (mem : Mem0 s 0 wv zeroD 0) : ∃ y, txCommit (PA rs ws k wt false ca ma va [] dn a g n false false) = (0, y) ∧ SX wt wv s y ∧ y.job = 4 ∧ y.ws = ws ∧ y.rs = rs ∧ y.sure = false := by
  cases ws with
  | nil => exact ⟨_, rfl, .c0 rs k ca ma va a g n rl mem, rfl, rfl, rfl, rfl⟩
  | cons p ws => exact ⟨_, rfl, .c1 rs p ws k ca ma va a g n ok rl mem, rfl, rfl, rfl, rfl⟩
theorem has_data {d : Nat} (hd : d < 4) (rs ws : List Wd) (k : Nat) (wt : List Wd) (su : Bool) (ca ma va : Int) (ps : List Int) (dn : Nat) (a g n : Int) (cl ph : Bool) : hasP (PA rs ws k wt su ca ma va ps dn a g n cl ph) (dataP d) = true := by
  unfold hasP
  rw [show (PA rs ws k wt su ca ma va ps dn a g n cl ph).m.size = 34 from mT_size]
  unfold dataP
  rw [decide_eq_true (show 0 ≤ 26 + 2 * (d : Int) by omega), decide_eq_true (show 26 + 2 * (d : Int) < 34 by omega)]
  rfl
theorem ask_read {rs ws : List Wd} {k : Nat} {ca ma va : Int} {dn : Nat} {a g n : Int} (ok : WsOk ws) (rl : rs.length < 8) (mem : Mem0 s 0 wv zeroD 0) {d : Nat} (hd : d < 4) : ∃ c y, txRead (PA rs ws k wt false ca ma va [] dn a g n false false) (dataP d) = (c, y) ∧ SX wt wv s y ∧ y.ws = ws ∧ y.rs = rs ∧ y.sure = false ∧ (c = 1 ∧ y.job = 0 ∨ c = 0 ∧ y.job = 2) := by
  cases hh : hasL ws (dataP d) with
  | true =>
    refine ⟨1, PA rs ws (askN ws (dataP d) k) wt false ca ma (valL ws (dataP d)) [] dn a g n false false, ?_, .idle _ _ _ _ _ _ _ _ _ _ ok (by omega) mem, rfl, rfl, rfl, .inl ⟨rfl, rfl⟩⟩
    show pRead _ _ = _
    unfold pRead
    rw [if_pos ⟨rfl, rfl⟩]
    exact if_pos hh
  | false =>
    refine ⟨0, PA rs ws (askN ws (dataP d) k) wt false ca ma va [4, 5, 3, 12] 0 (dataP d) g n false false, ?_, .r0 _ _ _ _ _ _ d _ _ ok rl hd mem, rfl, rfl, rfl, .inr ⟨rfl, rfl⟩⟩
    show pRead _ _ = _
    unfold pRead
    rw [if_pos ⟨rfl, rfl⟩]
    refine (if_neg (by show ¬ hasL ws (dataP d) = true; rw [hh]; decide)).trans ((if_neg (fun h => ?_)).trans rfl)
    rcases h with h | h
    · rw [has_data hd] at h; cases h
    · have : roomL 32 rs (dataP d) = true := by unfold roomL; rw [decide_eq_true (show rs.length < 32 by omega), Bool.or_true]
      have h : roomL 32 rs (dataP d) = false := h
      rw [this] at h
      cases h
theorem ask_write {rs ws : List Wd} {k : Nat} {ca ma va : Int} {dn : Nat} {a g n : Int} (ok : WsOk ws) (wl : ws.length < 8) {d : Nat} (hd : d < 4) (v : Int) : txWrite (PA rs ws k wt false ca ma va [] dn a g n false false) (dataP d) v = (1, PA rs (wputL 32 ws (dataP d) v) k wt false ca ma va [] dn a g n false false) := by
  show pWrite _ _ _ = _
  unfold pWrite
  rw [if_pos ⟨rfl, rfl⟩]
  exact (if_neg (by rw [has_data hd]; decide)).trans (if_pos (ok.put hd v wl).2.1)

/-- The next thing of its plan is asked. -/
theorem SA.ask (h : SA ck wt wv s u) (hb : u.busy = false) : ∃ v, askR u = v ∧ SA ck wt wv s v ∧ v.plan = u.plan ∧ v.x.sure = false ∧ (v.busy = false ∧ v.i = u.i + 1 ∨ v.busy = true ∧ v.i = u.i ∧ (v.x.job = 2 ∨ v.x.job = 4)) := by
  have hj : u.x.job = 0 := by
    rcases h.bz with ⟨hb', _⟩ | ⟨_, hj⟩
    · rw [hb] at hb'; cases hb'
    · exact hj
  have hid := h.sx.free hj
  obtain ⟨x, plan, i, busy, fin, read⟩ := u
  have hx : Idle wt wv s x := hid
  have hb : busy = false := hb
  have hf : fin = 0 := h.fin
  have i1 : 1 ≤ i := h.i1
  have i2 : i ≤ plan.length + 1 := h.i2
  have pl : plan.length ≤ 8 := h.pl.1
  have wl : x.ws.length + 1 ≤ i := h.wl
  have rl : x.rs.length + 1 ≤ i := h.rl
  have hpl := h.pl
  clear h hid hj
  subst hb hf
  obtain ⟨rs, ws, k, ca, ma, va, dn, a, g, n, ok, rl8, mem⟩ := hx
  have wl : ws.length + 1 ≤ i := wl
  have rl : rs.length + 1 ≤ i := rl
  by_cases hi : plan.length < i
  · obtain ⟨y, hy, hs, j, e1, e2, e3⟩ := ask_com (wt := wt) (k := k) (ca := ca) (ma := ma) (va := va) (dn := dn) (a := a) (g := g) (n := n) ok rl8 mem
    have e : askC ⟨PA rs ws k wt false ca ma va [] dn a g n false false, plan, i, false, 0, read⟩ = (0, y) := by
      unfold askC
      exact (if_neg (show ¬ i = 0 by omega)).trans ((if_pos hi).trans hy)
    refine ⟨⟨y, plan, i, true, 0, read⟩, by unfold askR; rw [e]; rfl, ⟨hs, rfl, i1, i2, hpl, by show y.ws.length + 1 ≤ i; rw [e1]; exact wl, by show y.rs.length + 1 ≤ i; rw [e2]; exact rl, .inl ⟨rfl, .inr ⟨j, by show i = plan.length + 1; omega⟩⟩⟩, rfl, e3, .inr ⟨rfl, rfl, .inr j⟩⟩
  · have hlt : i - 1 < plan.length := by omega
    obtain ⟨⟨w, d, z⟩, ho⟩ : ∃ o, plan.getD (i - 1) (false, 0, 0) = o := ⟨_, rfl⟩
    have hd : d < 4 := by
      have hm : (w, d, z) ∈ plan := by
        rw [List.getD_eq_getElem?_getD, List.getElem?_eq_getElem hlt] at ho
        have ho : plan[i - 1] = (w, d, z) := ho
        rw [← ho]
        exact List.getElem_mem hlt
      exact hpl.2 _ hm
    cases w with
    | true =>
      obtain ⟨p1, p2, p3⟩ := ok.put hd (valR read d z) (by omega)
      have e : askC ⟨PA rs ws k wt false ca ma va [] dn a g n false false, plan, i, false, 0, read⟩ = (1, PA rs (wputL 32 ws (dataP d) (valR read d z)) k wt false ca ma va [] dn a g n false false) := by
        unfold askC
        refine (if_neg (show ¬ i = 0 by omega)).trans ((if_neg hi).trans ?_)
        show (if (plan.getD (i - 1) (false, 0, 0)).1 = false then _ else txWrite _ (dataP (plan.getD (i - 1) (false, 0, 0)).2.1) (valR read (plan.getD (i - 1) (false, 0, 0)).2.1 (plan.getD (i - 1) (false, 0, 0)).2.2)) = _
        rw [ho]
        exact (if_neg (fun h => Bool.noConfusion h)).trans (ask_write ok (by omega) hd _)
      refine ⟨⟨PA rs (wputL 32 ws (dataP d) (valR read d z)) k wt false ca ma va [] dn a g n false false, plan, i + 1, false, 0, read⟩, ?_, ⟨.idle _ _ _ _ _ _ _ _ _ _ p1 rl8 mem, rfl, by show 1 ≤ i + 1; omega, by show i + 1 ≤ plan.length + 1; omega, hpl, by show (wputL 32 ws (dataP d) (valR read d z)).length + 1 ≤ i + 1; omega, by show rs.length + 1 ≤ i + 1; omega, .inr ⟨rfl, rfl⟩⟩, rfl, rfl, .inl ⟨rfl, rfl⟩⟩
      unfold askR
      rw [e]
      exact doneR_wrote (u := ⟨PA rs (wputL 32 ws (dataP d) (valR read d z)) k wt false ca ma va [] dn a g n false false, plan, i, decide ((1 : Int) = 0), 0, read⟩) (d := d) (z := z) hi ho
    | false =>
      obtain ⟨c, y, hy, hs, e1, e2, e3, hc⟩ := ask_read (wt := wt) (k := k) (ca := ca) (ma := ma) (va := va) (dn := dn) (a := a) (g := g) (n := n) ok (show rs.length < 8 by omega) mem hd
      have e : askC ⟨PA rs ws k wt false ca ma va [] dn a g n false false, plan, i, false, 0, read⟩ = (c, y) := by
        unfold askC
        refine (if_neg (show ¬ i = 0 by omega)).trans ((if_neg hi).trans ?_)
        show (if (plan.getD (i - 1) (false, 0, 0)).1 = false then txRead _ (dataP (plan.getD (i - 1) (false, 0, 0)).2.1) else _) = _
        rw [ho]
        exact (if_pos rfl).trans hy
      rcases hc with ⟨rfl, j⟩ | ⟨rfl, j⟩
      · refine ⟨⟨y, plan, i + 1, false, 0, read ++ [(d, y.val)]⟩, ?_, ⟨hs, rfl, by show 1 ≤ i + 1; omega, by show i + 1 ≤ plan.length + 1; omega, hpl, by show y.ws.length + 1 ≤ i + 1; rw [e1]; omega, by show y.rs.length + 1 ≤ i + 1; rw [e2]; omega, .inr ⟨rfl, j⟩⟩, rfl, e3, .inl ⟨rfl, rfl⟩⟩
        unfold askR
        rw [e]
        exact doneR_more (u := ⟨y, plan, i, decide ((1 : Int) = 0), 0, read⟩) (d := d) (z := z) hi (by show 0 < i; omega) ho
      · refine ⟨⟨y, plan, i, true, 0, read⟩, by unfold askR; rw [e]; rfl, ⟨hs, rfl, i1, i2, hpl, by show y.ws.length + 1 ≤ i; rw [e1]; exact wl, by show y.rs.length + 1 ≤ i; rw [e2]; exact rl, .inl ⟨rfl, .inl ⟨j, by show i ≤ plan.length; omega, by show (plan.getD (i - 1) (false, 0, 0)).1 = false; rw [ho]⟩⟩⟩, rfl, e3, .inr ⟨rfl, rfl, .inl j⟩⟩

theorem SA.asks : ∀ (n : Nat) (u : RU), SA ck wt wv s u → u.busy = false → u.plan.length + 1 - u.i < n → ∃ v, asksR n u = v ∧ SA ck wt wv s v ∧ v.busy = true ∧ v.plan = u.plan ∧ muS v < muS u
  | 0, u, _, _, hn => absurd hn (Nat.not_lt_zero _)
  | n + 1, u, h, hb, hn => by
    obtain ⟨v, e, hv, hp, _, hc⟩ := h.ask hb
    rw [asksR_go hb h.fin, e]
    have i2 := h.i2
    rw [muS_btw h.fin hb]
    rcases hc with ⟨hvb, hvi⟩ | ⟨hvb, hvi, hj⟩
    · by_cases hlast : u.plan.length < u.i
      · have := hv.i2
        rw [hp, hvi] at this
        omega
      · obtain ⟨v2, e2, hv2, hb2, hp2, hm2⟩ := SA.asks n v hv hvb (by rw [hp, hvi]; omega)
        refine ⟨v2, e2, hv2, hb2, hp2.trans hp, ?_⟩
        rw [muS_btw hv.fin hvb, hp, hvi] at hm2
        omega
    · refine ⟨v, asksR_busy n hvb, hv, hvb, hp, ?_⟩
      rcases hj with j | j
      · rw [muS_rd hv.fin hvb j, hp, hvi]
        have := hv.sx.mx_le j
        omega
      · rw [muS_com hv.fin hvb j]
        have := hv.sx.mx_ge j
        omega
end

/-- What a pick comes to. -/
inductive NextS (ck : Int) (wt : List Wd) (wv : Int) (u : RU) : RU × MS → Prop
  | on (u' : RU) (s' : MS) (h : SA ck wt wv s' u') (plan : u'.plan = u.plan) (less : muS u' < muS u) : NextS ck wt wv u (u', s')
  | undo (u' : RU) (s' : MS) (h : UX 3 wv s' u'.x) (fin : u'.fin = 0) (busy : u'.busy = true) (hw : wv ≠ 0) (less : muS u' < muS u) : NextS ck wt wv u (u', s')
  | done (u' : RU) (s' : MS) (h : EX wv s' u'.x) (fin : u'.fin = 1) : NextS ck wt wv u (u', s')
  | dead (u' : RU) (s' : MS) (h : DX 3 wv s' u'.x) (fin : u'.fin = 2) (hw : wv ≠ 0) : NextS ck wt wv u (u', s')

section
variable {ck wv : Int} {wt : List Wd} {s : MS} {u : RU}
theorem SA.step (hw : WtOk wt) (hck : ck = 1 ∨ ck = 2) (h : SA ck wt wv s u) (hb : u.busy = true) : NextS ck wt wv u (stepR s u, (txStep s u.x).2.2) := by
  have hbz := h.bz.resolve_right (fun hh => by rw [hb] at hh; cases hh.1)
  have i1 := h.i1
  have i2 := h.i2
  have pl := h.pl.1
  have wl := h.wl
  have rl := h.rl
  have key : ∀ r : Int × TX × MS, txStep s u.x = r → StepX wt wv u.x r → NextS ck wt wv u (stepR s u, r.2.2) := by
    intro r hr hx
    cases hx with
    | on x' s' hs job less hws hrs =>
      rw [stepR_busy hr]
      have hsa : SA ck wt wv s' { u with x := x' } := ⟨hs, h.fin, i1, i2, h.pl, by show x'.ws.length + 1 ≤ u.i; rw [hws]; exact wl, by show x'.rs.length + 1 ≤ u.i; rw [hrs]; exact rl, .inl ⟨hb, hbz.2.imp (fun hh => ⟨job.trans hh.1, hh.2⟩) (fun hh => ⟨job.trans hh.1, hh.2⟩)⟩⟩
      refine .on _ _ hsa rfl ?_
      rcases hbz.2 with hh | hh
      · rw [muS_rd h.fin hb hh.1, muS_rd (u := { u with x := x' }) h.fin hb (job.trans hh.1)]
        show 6 * (u.plan.length + 1 - u.i) + 95 + mx x' < _
        omega
      · rw [muS_com h.fin hb hh.1, muS_com (u := { u with x := x' }) h.fin hb (job.trans hh.1)]
        exact less
    | undo x' s' hs hwv =>
      rw [stepR_busy hr]
      refine .undo _ _ hs h.fin hb hwv ?_
      rw [muS_un (u := { u with x := x' }) h.fin hb hs.job]
      have h3 := hs.len
      show x'.parts.length < _
      rcases hbz.2 with hh | hh
      · rw [muS_rd h.fin hb hh.1]
        omega
      · rw [muS_com h.fin hb hh.1]
        have := h.sx.mx_ge hh.1
        omega
    | dead x' s' hs hwv =>
      rw [stepR_dead hr]
      exact .dead _ _ hs rfl hwv
    | read x' s' hs job job' sure hws hrs =>
      have hh := hbz.2.resolve_right (fun hh => by rw [job] at hh; exact absurd hh.1 (by decide))
      obtain ⟨⟨w, d, z⟩, ho⟩ : ∃ o, u.plan.getD (u.i - 1) (false, 0, 0) = o := ⟨_, rfl⟩
      have hwf : w = false := by have := hh.2.2; rw [ho] at this; exact this
      subst hwf
      have e := (stepR_done hr).trans (doneR_more (d := d) (z := z) (by show ¬ u.plan.length < u.i; omega) (by show 0 < u.i; omega) (by exact ho))
      rw [e]
      refine .on _ _ ⟨hs, h.fin, ?_, ?_, h.pl, ?_, ?_, .inr ⟨rfl, job'⟩⟩ rfl ?_
      · show 1 ≤ u.i + 1; omega
      · show u.i + 1 ≤ u.plan.length + 1; omega
      · show x'.ws.length + 1 ≤ u.i + 1; rw [hws]; omega
      · show x'.rs.length + 1 ≤ u.i + 1; omega
      · rw [muS_btw (by exact h.fin) rfl, muS_rd h.fin hb job]
        show 6 * (u.plan.length + 1 - (u.i + 1)) + 100 < _
        omega
    | done x' s' hs job hws =>
      have hh := hbz.2.resolve_left (fun hh => by rw [job] at hh; exact absurd hh.1 (by decide))
      have e := (stepR_done hr).trans (doneR_end (by show u.plan.length < u.i; omega))
      rw [e]
      exact .done _ _ hs rfl
  refine key _ rfl (h.sx.step hw ?_)
  rcases hbz.2 with hh | hh <;> rw [hh.1] <;> decide

/-- **Any pick of an attempt that is alone.** -/
theorem SA.next (hw : WtOk wt) (hck : ck = 1 ∨ ck = 2) (h : SA ck wt wv s u) : NextS ck wt wv u (nextR s u) := by
  cases hb : u.busy with
  | true =>
    rw [nextR_busy hb h.fin]
    exact h.step hw hck hb
  | false =>
    obtain ⟨v, e, hv, hvb, hvp, hm⟩ := SA.asks 9 u h hb (by have := h.i1; have := h.pl.1; omega)
    rw [nextR_asks h.fin e hv.fin]
    have := hv.step hw hck hvb
    generalize (stepR s v, (txStep s v.x).2.2) = r at this
    cases this with
    | on u' s' h' plan less => exact .on _ _ h' (plan.trans hvp) (Nat.lt_trans less hm)
    | undo u' s' h' fin busy hwv less => exact .undo _ _ h' fin busy hwv (Nat.lt_trans less hm)
    | done u' s' h' fin => exact .done _ _ h' fin
    | dead u' s' h' fin hwv => exact .dead _ _ h' fin hwv
/-- A pick of one that is being undone. -/
theorem UX.next {c : Int} (h : UX c wv s u.x) (fin : u.fin = 0) (busy : u.busy = true) : (UX c wv (nextR s u).2 (nextR s u).1.x ∧ (nextR s u).1.fin = 0 ∧ (nextR s u).1.busy = true ∧ muS (nextR s u).1 < muS u) ∨ (DX c wv (nextR s u).2 (nextR s u).1.x ∧ (nextR s u).1.fin = 2) := by
  rw [nextR_busy busy fin]
  rcases h.step with ⟨x', s', e, hu, hl⟩ | ⟨x', s', e, hd⟩
  · refine .inl ?_
    show UX c wv (txStep s u.x).2.2 (stepR s u).x ∧ (stepR s u).fin = 0 ∧ (stepR s u).busy = true ∧ muS (stepR s u) < muS u
    rw [stepR_busy e, e]
    refine ⟨hu, fin, busy, ?_⟩
    rw [muS_un fin busy h.job, muS_un (u := { u with x := x' }) fin busy hu.job]
    exact hl
  · refine .inr ?_
    show DX c wv (txStep s u.x).2.2 (stepR s u).x ∧ (stepR s u).fin = 2
    rw [stepR_dead e, e]
    exact ⟨hd, rfl⟩
/-- It begins. -/
theorem SA.begin {p : Pl} (mem : Mem0 s 0 wv zeroD 0) (hp : p.length ≤ 8 ∧ ∀ o ∈ p, o.2.1 < 4) : SA ck [] wv (nextR s (RU.new 1 ck p)).2 (nextR s (RU.new 1 ck p)).1 ∧ (nextR s (RU.new 1 ck p)).1.plan = p ∧ muS (nextR s (RU.new 1 ck p)).1 ≤ 166 := by
  rw [nextR_new mem.seq]
  refine ⟨⟨.idle [] [] 0 0 0 0 0 0 0 0 ⟨(fun _ h => by cases h), List.nodup_nil, Nat.zero_le _⟩ (Nat.zero_le _) (mem.load _), rfl, Nat.le_refl _, by show 1 ≤ p.length + 1; omega, hp, Nat.le_refl _, Nat.le_refl _, .inr ⟨rfl, rfl⟩⟩, rfl, ?_⟩
  rw [muS_btw rfl rfl]
  show 6 * (p.length + 1 - 1) + 100 ≤ 166
  omega
/-- The lock's word is watched. -/
theorem SA.watch (h : SA ck [] wv s u) (hb : u.busy = false) : SA ck [(9, 0)] wv s { u with x := txWatch u.x 9 0 } ∧ muS { u with x := txWatch u.x 9 0 } = muS u := by
  have hj : u.x.job = 0 := by
    rcases h.bz with ⟨hb', _⟩ | ⟨_, hj⟩
    · rw [hb] at hb'; cases hb'
    · exact hj
  have hx := h.sx.free hj
  have e1 : (txWatch u.x 9 0).ws = u.x.ws ∧ (txWatch u.x 9 0).rs = u.x.rs ∧ (txWatch u.x 9 0).job = 0 ∧ SX [(9, 0)] wv s (txWatch u.x 9 0) := by
    generalize u.x = x at hx
    obtain ⟨rs, ws, k, ca, ma, va, dn, a, g, n, ok, rl8, mem⟩ := hx
    exact ⟨rfl, rfl, rfl, .idle rs ws k ca ma va dn a g n ok rl8 mem⟩
  obtain ⟨e1, e2, e3, hs⟩ := e1
  rw [muS_btw h.fin hb, muS_btw (u := { u with x := txWatch u.x 9 0 }) h.fin hb]
  exact ⟨⟨hs, h.fin, h.i1, h.i2, h.pl, by show (txWatch u.x 9 0).ws.length + 1 ≤ u.i; rw [e1]; exact h.wl, by show (txWatch u.x 9 0).rs.length + 1 ≤ u.i; rw [e2]; exact h.rl, .inr ⟨hb, e3⟩⟩, rfl⟩
theorem SA.turned (h : SA ck wt wv s u) (v : Int) : SA ck wt v (s.stored 9 v) u := ⟨h.sx.turned v, h.fin, h.i1, h.i2, h.pl, h.wl, h.rl, h.bz⟩
/-- A kill of one that is alive. -/
theorem SX.kill {x : TX} (h : SX wt wv s x) (c : Int) : txKill x c = if x.sure = false then abortP x c else (1, x) := by
  show pKill x c = _
  unfold pKill
  by_cases hs : x.sure = false
  · rw [if_pos ⟨h.live, hs⟩, if_pos hs]
  · rw [if_neg (fun hh => hs hh.2), if_neg hs]
end

end Go.Proofs.Ytjfinnjmcnjciaa
