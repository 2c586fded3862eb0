/-
  What the asks of a pick want, where three attempts go on together. The law's world with three runs. Three attempts by picks: what holds behind each pick, in plain words.
-/
import Derived.Test.YtjfinnjmcnjciaaTqG
import Derived.Test.YtjfinnjmcnjciaaTlK
import Derived.Test.YtjfinnjmcnjciaaJl
namespace Go.Proofs.Ytjfinnjmcnjciaa
open Go.RowKit

/-- Between two things of its plan, or behind the last ask of a pick. -/
structure BJ (u : RU) : Prop where
  m : u.x.m = mT
  mw : u.x.mw = 32
  mr : u.x.mr = 32
  alive : u.x.alive = true
  ws : WsOk u.x.ws
  wl : u.x.ws.length + 1 ≤ u.i
  i2 : u.i ≤ u.plan.length + 1
  pl : u.plan.length ≤ 8 ∧ ∀ o ∈ u.plan, o.2.1 < 4
  rs : u.x.rs.length + 1 ≤ u.i
  rl : u.read.length ≤ u.i
  fin : u.fin = 0
  bz : u.busy = false ∧ u.x.job = 0 ∨ u.busy = true ∧ (u.x.job = 2 ∨ u.x.job = 4) ∧ u.x.st = 0
theorem BJ.free {u : RU} (h : BJ u) (hb : u.busy = false) : u.x.job = 0 := by
  rcases h.bz with ⟨_, hj⟩ | ⟨hb', _⟩
  · exact hj
  · rw [hb] at hb'; cases hb'
theorem BJ.askOk {u : RU} (h : BJ u) (hb : u.busy = false) : AskOk u := by
  have i2 := h.i2
  have pl := h.pl.1
  have rl := h.rl
  have wl := h.wl
  have at4 : ∀ o, 1 ≤ u.i → u.i ≤ u.plan.length → u.plan.getD (u.i - 1) (false, 0, 0) = o → o.2.1 < 4 := fun o h1 h2 ho => by
    have hlt : u.i - 1 < u.plan.length := by omega
    rw [List.getD_eq_getElem?_getD, List.getElem?_eq_getElem hlt] at ho
    have ho : u.plan[u.i - 1] = o := ho
    exact h.pl.2 o (by rw [← ho]; exact List.getElem_mem hlt)
  refine ⟨h.free hb, h.m, at4, fun o h1 h2 ho _ _ => ?_, by omega, by omega⟩
  rw [h.mw]
  exact (h.ws.put (at4 o h1 h2 ho) 0 (by omega)).2.1
theorem BJ.ask {u : RU} (h : BJ u) (hb : u.busy = false) : BJ (askR u) ∧ (askR u).plan = u.plan ∧ ((askR u).busy = true ∨ (askR u).i = u.i + 1) := by
  have hj := h.free hb
  have i2 := h.i2
  have pl := h.pl.1
  have wl := h.wl
  have rl := h.rl
  have rs := h.rs
  by_cases hi : u.plan.length < u.i
  · have e := askR_commit (u := u) (by omega) hi ⟨h.alive, hj⟩
    rw [e]
    exact ⟨⟨h.m, h.mw, h.mr, h.alive, h.ws, wl, i2, h.pl, rs, rl, h.fin, .inr ⟨rfl, .inr rfl, rfl⟩⟩, rfl, .inl rfl⟩
  · have hlt : u.i - 1 < u.plan.length := by omega
    obtain ⟨⟨w, d, z⟩, ho⟩ : ∃ o, u.plan.getD (u.i - 1) (false, 0, 0) = o := ⟨_, rfl⟩
    have hd : d < 4 := by
      have hm : (w, d, z) ∈ u.plan := by
        rw [List.getD_eq_getElem?_getD, List.getElem?_eq_getElem hlt] at ho
        have ho : u.plan[u.i - 1] = (w, d, z) := ho
        rw [← ho]
        exact List.getElem_mem hlt
      exact h.pl.2 _ hm
    have hin : 0 ≤ dataP d ∧ dataP d < u.x.m.size := by rw [h.m, mT_size]; unfold dataP; omega
    cases w with
    | true =>
      obtain ⟨p1, p2, p3⟩ := h.ws.put hd (valR u.read d z) (by omega)
      have hw : txWrite u.x (dataP d) (valR u.read d z) = (1, { u.x with ws := wputL u.x.mw u.x.ws (dataP d) (valR u.read d z) }) := txWrite_ok ⟨h.alive, hj⟩ ⟨hin.1, hin.2, by rw [h.mw]; exact p2⟩
      have e := askR_write (u := u) (d := d) (z := z) (by omega) hi ho hw
      rw [e]
      refine ⟨⟨h.m, h.mw, h.mr, h.alive, by show WsOk (wputL u.x.mw u.x.ws (dataP d) _); rw [h.mw]; exact p1, ?_, ?_, h.pl, ?_, ?_, h.fin, .inl ⟨rfl, hj⟩⟩, rfl, .inr rfl⟩
      · show (wputL u.x.mw u.x.ws (dataP d) (valR u.read d z)).length + 1 ≤ u.i + 1; rw [h.mw]; omega
      · show u.i + 1 ≤ u.plan.length + 1; omega
      · show u.x.rs.length + 1 ≤ u.i + 1; omega
      · show u.read.length ≤ u.i + 1; omega
    | false =>
      cases hh : hasL u.x.ws (dataP d) with
      | true =>
        have e1 : askC u = (1, { u.x with st := 0, i := 0, asked := if mayL u.x.ws (dataP d) = true then u.x.asked + 1 else u.x.asked, val := valL u.x.ws (dataP d), job := 0 }) := by
          unfold askC
          rw [if_neg (show ¬ u.i = 0 by omega), if_neg hi, ho, if_pos rfl]
          unfold txRead
          rw [if_pos ⟨h.alive, hj⟩, if_pos hin, if_pos hh]
        have e : askR u = doneR { u with x := { u.x with st := 0, i := 0, asked := if mayL u.x.ws (dataP d) = true then u.x.asked + 1 else u.x.asked, val := valL u.x.ws (dataP d), job := 0 }, busy := decide ((1 : Int) = 0) } := by
          unfold askR tookC
          rw [e1]
          rfl
        have e := e.trans (doneR_more (d := d) (z := z) (by exact hi) (by show 0 < u.i; omega) (by exact ho))
        rw [e]
        refine ⟨⟨h.m, h.mw, h.mr, h.alive, h.ws, ?_, ?_, h.pl, ?_, ?_, h.fin, .inl ⟨rfl, rfl⟩⟩, rfl, .inr rfl⟩
        · show u.x.ws.length + 1 ≤ u.i + 1; omega
        · show u.i + 1 ≤ u.plan.length + 1; omega
        · show u.x.rs.length + 1 ≤ u.i + 1; omega
        · show (u.read ++ [_]).length ≤ u.i + 1; rw [List.length_append, List.length_singleton]; omega
      | false =>
        have e1 : askC u = (0, { u.x with job := 2, st := 0, i := 0, asked := if mayL u.x.ws (dataP d) = true then u.x.asked + 1 else u.x.asked, at_ := dataP d }) := by
          unfold askC
          rw [if_neg (show ¬ u.i = 0 by omega), if_neg hi, ho, if_pos rfl]
          unfold txRead
          rw [if_pos ⟨h.alive, hj⟩, if_pos hin, if_neg (by rw [hh]; decide), if_pos (show roomL u.x.mr u.x.rs (u.x.m.hash (dataP d)) = true by
            rw [h.mr]
            unfold roomL
            rw [decide_eq_true (show u.x.rs.length < 32 by omega), Bool.or_true])]
        have e : askR u = { u with x := { u.x with job := 2, st := 0, i := 0, asked := if mayL u.x.ws (dataP d) = true then u.x.asked + 1 else u.x.asked, at_ := dataP d }, busy := true } := by
          unfold askR tookC
          rw [e1]
          rfl
        rw [e]
        exact ⟨⟨h.m, h.mw, h.mr, h.alive, h.ws, wl, i2, h.pl, rs, rl, h.fin, .inr ⟨rfl, .inl rfl, rfl⟩⟩, rfl, .inl rfl⟩
theorem BJ.asks : ∀ (n : Nat) {u : RU}, BJ u → u.busy = false → u.plan.length + 1 - u.i < n → BJ (asksR n u) ∧ (asksR n u).busy = true
  | 0, u, _, _, hn => absurd hn (Nat.not_lt_zero _)
  | n + 1, u, h, hb, hn => by
    rw [asksR_go hb h.fin]
    obtain ⟨h1, h2, h3⟩ := h.ask hb
    cases hb1 : (askR u).busy with
    | true => rw [asksR_busy n hb1]; exact ⟨h1, hb1⟩
    | false =>
      have h4 := h3.resolve_left (fun e => by rw [hb1] at e; cases e)
      refine BJ.asks n h1 hb1 ?_
      rw [h2, h4]
      have := h1.i2
      rw [h2, h4] at this
      omega
theorem BJ.stOk {u : RU} {s : MS} (h : BJ u) (hb : u.busy = true) (hz : s.zs.length = 34) : StOk s u := by
  have hx := h.bz.resolve_left (fun hh => by rw [hb] at hh; cases hh.1)
  obtain ⟨_, hj, st⟩ := hx
  have i2 := h.i2
  have pl := h.pl.1
  have rl := h.rl
  have hok : StepOk s u.x := ⟨(by rw [h.m]; exact mT_ok), (fun _ t => (by rw [st] at t; cases t)), (fun _ _ hw => (by rw [h.m]; exact (rows_of h.ws hw).2)), (fun _ _ t => (by rw [st] at t; rcases t with t | t | t <;> cases t))⟩
  exact ⟨hok, (by rcases hj with j | j <;> rw [j] <;> decide), (by rw [h.m, mT_size, hz]; decide), (fun j5 => (by rcases hj with j | j <;> (rw [j] at j5; cases j5))), (by omega), (by omega)⟩
theorem BJ.pick {u : RU} {s : MS} (h : BJ u) (hb : u.busy = false) (hz : s.zs.length = 34) : ∃ J : RU → Prop, J u ∧ (∀ v, J v → v.busy = false → v.fin = 0 → AskOk v ∧ J (askR v)) ∧ ((asksR 9 u).busy = true ∨ (asksR 9 u).fin ≠ 0) ∧ ((asksR 9 u).fin = 0 → StOk s (asksR 9 u)) := by
  obtain ⟨h1, h2⟩ := BJ.asks 9 h hb (by have := h.wl; have := h.pl.1; omega)
  exact ⟨BJ, h, fun v hv hb _ => ⟨hv.askOk hb, (hv.ask hb).1⟩, .inl h2, fun _ => h1.stOk h2 hz⟩
theorem busy_pick {u : RU} {s : MS} (hb : u.busy = true) (h : StOk s u) : ∃ J : RU → Prop, J u ∧ (∀ v, J v → v.busy = false → v.fin = 0 → AskOk v ∧ J (askR v)) ∧ ((asksR 9 u).busy = true ∨ (asksR 9 u).fin ≠ 0) ∧ ((asksR 9 u).fin = 0 → StOk s (asksR 9 u)) := by
  have e := asksR_busy 9 hb
  exact ⟨fun v => v.busy = true, hb, (fun v hv hb' _ => (by have hv : v.busy = true := hv; rw [hb'] at hv; cases hv)), .inl (by rw [e]; exact hb), fun _ => by rw [e]; exact h⟩
theorem PlanOk.at4 {p : Pl} (h : PlanOk p) : p.length ≤ 8 ∧ ∀ o ∈ p, o.2.1 < 4 := by
  cases h with
  | reads => exact ⟨by decide, fun o ho => by simp [PR] at ho; rcases ho with rfl | rfl | rfl | rfl <;> decide⟩
  | moves f g k hf hg hfg => exact ⟨by simp [PW], fun o ho => by simp [PW] at ho; rcases ho with rfl | rfl | rfl | rfl <;> assumption⟩
theorem RU.new_pick3 {s : MS} (t : Nat) (ck : Int) {p : Pl} (hp : PlanOk p) (hz : s.zs.length = 34) : ∃ J : RU → Prop, J (RU.new t ck p) ∧ (∀ v, J v → v.busy = false → v.fin = 0 → AskOk v ∧ J (askR v)) ∧ ((asksR 9 (RU.new t ck p)).busy = true ∨ (asksR 9 (RU.new t ck p)).fin ≠ 0) ∧ ((asksR 9 (RU.new t ck p)).fin = 0 → StOk s (asksR 9 (RU.new t ck p))) := by
  have e : askR (RU.new t ck p) = { x := { TX.new mT t ck 32 32 1000 with alive := true, job := 1 }, plan := p, i := 0, busy := true, fin := 0, read := [] } := by
    unfold askR askC
    rfl
  have e9 : asksR 9 (RU.new t ck p) = { x := { TX.new mT t ck 32 32 1000 with alive := true, job := 1 }, plan := p, i := 0, busy := true, fin := 0, read := [] } := by
    refine (asksR_go (n := 8) (by rfl) (by rfl)).trans ?_
    rw [e]
    exact asksR_busy 8 (by rfl)
  refine ⟨fun v => v = RU.new t ck p ∨ v.busy = true, .inl rfl, fun v hv hb hf => ?_, .inl (by rw [e9]), fun _ => ?_⟩
  · rcases hv with rfl | hv
    · refine ⟨⟨rfl, rfl, (fun o h => absurd h (by show ¬ 1 ≤ 0; omega)), (fun o h => absurd h (by show ¬ 1 ≤ 0; omega)), by show 0 < 100; omega, by show 0 < 100; omega⟩, .inr (by rw [e])⟩
    · rw [hb] at hv; cases hv
  · rw [e9]
    exact ⟨⟨mT_ok, (fun j => (by cases j)), (fun j => (by cases j)), (fun j => (by cases j))⟩, (by show (1 : Int) ≠ 0; decide), (by show mT.size ≤ _; rw [mT_size, hz]; decide), (fun j => (by cases j)), (by show 0 < 100; omega), (by show 0 < 100; omega)⟩
/-- How far its plan it is at most. -/
theorem doneR_il {u : RU} (h : u.i ≤ u.plan.length + 1) : (doneR u).i ≤ (doneR u).plan.length + 1 ∧ (doneR u).plan = u.plan := by
  unfold doneR
  split
  · exact ⟨h, rfl⟩
  · refine ⟨?_, rfl⟩
    show u.i + 1 ≤ u.plan.length + 1
    omega
theorem tookC_il {u : RU} (h : u.i ≤ u.plan.length + 1) (c : Int) : (tookC u c).i ≤ (tookC u c).plan.length + 1 ∧ (tookC u c).plan = u.plan := by
  unfold tookC
  split
  · exact doneR_il h
  · split <;> exact ⟨h, rfl⟩
theorem asksR_il : ∀ (n : Nat) {u : RU}, u.i ≤ u.plan.length + 1 → (asksR n u).i ≤ (asksR n u).plan.length + 1 ∧ (asksR n u).plan = u.plan
  | 0, _, h => ⟨h, rfl⟩
  | n + 1, u, h => by
    unfold asksR
    split
    · have h1 := tookC_il (u := { u with x := (askC u).2, busy := decide ((askC u).1 = 0) }) h (askC u).1
      have h2 := asksR_il n (u := askR u) h1.1
      exact ⟨h2.1, h2.2.trans h1.2⟩
    · exact ⟨h, rfl⟩
theorem nextR_il {s : MS} {u : RU} (h : u.i ≤ u.plan.length + 1) : (nextR s u).1.i ≤ (nextR s u).1.plan.length + 1 ∧ (nextR s u).1.plan = u.plan := by
  unfold nextR
  split
  · exact ⟨h, rfl⟩
  · have h1 := asksR_il 9 h
    split
    · exact h1
    · have h2 := tookC_il (u := { asksR 9 u with x := (txStep s (asksR 9 u).x).2.1 }) h1.1 (txStep s (asksR 9 u).x).1
      show (stepR s (asksR 9 u)).i ≤ (stepR s (asksR 9 u)).plan.length + 1 ∧ (stepR s (asksR 9 u)).plan = u.plan
      rw [stepR_took]
      exact ⟨h2.1, h2.2.trans h1.2⟩

section
variable {ck N : Int} {s : MS} {us : Nat → RU} {A : AS} {H : Int → Nat → Int} {Hc : Nat → Int} {t : Nat}
/-- What a stripe's word is. -/
theorem Sim.i64 (h : Sim ck N s us A H Hc) (hN : N ≤ 900) {k : Nat} (hk : k < 3) (hv : A.ver k ≤ A.c) : I64 (s.vAt (2 + (k : Int))) := by
  have h0 := h.v0 k
  have hc := h.cN
  by_cases ex : ∃ t, (A.T t).held k = true
  · obtain ⟨t, ht⟩ := ex
    have h3 := (h.wds.hb t k ht).2
    rw [h.wds.sth k hk t ht]
    unfold I64
    omega
  · rw [h.wds.str k hk fun t => by
      cases hh : (A.T t).held k with
      | false => rfl
      | true => exact absurd ⟨t, hh⟩ ex]
    unfold I64
    omega
/-- What the asks of a pick want, together. -/
theorem Sim.pick (h : Sim ck N s us A H Hc) (ht : t < 3) (hN : N ≤ 900) (u : RU) (hu : us t = u) (hf : u.fin = 0) (hil : u.i ≤ u.plan.length + 1) : ∃ J : RU → Prop, J u ∧ (∀ v, J v → v.busy = false → v.fin = 0 → AskOk v ∧ J (askR v)) ∧ ((asksR 9 u).busy = true ∨ (asksR 9 u).fin ≠ 0) ∧ ((asksR 9 u).fin = 0 → StOk s (asksR 9 u)) := by
  have hr := h.run t ht
  rw [hu] at hr
  have hz := h.wds.len
  have hsz : ∀ {x : TX}, x.m = mT → x.m.size ≤ (s.zs.length : Int) := fun hm => by rw [hm, mT_size, hz]; decide
  have hmok : ∀ {x : TX}, x.m = mT → x.m.Ok := fun hm => by rw [hm]; exact mT_ok
  have hrl : TB ck t u → u.read.length ≤ 4 := fun tb => Nat.le_trans tb.rd.len tb.plan.len.2.1
  have hcb : ∀ {W}, CB ck t A.ver u W → u.x.st ≠ 0 → (u.x.st = 1 → u.x.i < u.x.rows.length) → (u.x.rows ≠ [] ∨ u.x.st ≠ 3 ∧ u.x.st ≠ 4 ∧ u.x.st ≠ 5) → StOk s u := fun {W} cb n0 hl hne => by
    have hrl' := hrl cb.tb
    have hi := cb.i
    have hok : StepOk s u.x := ⟨hmok cb.tb.m, (fun _ st => (by
      obtain ⟨k, hk, hrow⟩ := cb.rows.at (hl st)
      rw [row_at cb.tb.m hk hrow]
      exact h.i64 hN hk (h.inv.verc k))), (fun _ st => absurd st n0), (fun _ _ st => (by
        rcases hne with hne | ⟨h3, h4, h5⟩
        · exact hne
        · rcases st with st | st | st
          · exact absurd st h3
          · exact absurd st h4
          · exact absurd st h5))⟩
    exact ⟨hok, (by rw [cb.job]; decide), hsz cb.tb.m, (fun j => (by rw [cb.job] at j; cases j)), (by omega), (by omega)⟩
  have hrne : ∀ {W}, CB ck t A.ver u W → u.x.rows ≠ [] := fun {W} cb e => by
    cases cb.w with
    | mk f g k vf vg hf hg hfg hp hr hw h1 h2 => rw [e] at h1; cases h1
  generalize A.T t = a at hr
  cases hr with
  | over hf' so => exact absurd hf hf'
  | btw tb busy alive sure phased job ws old i =>
    have hrl' := hrl tb
    have hpl := tb.plan.len.1
    have hn := tb.rd.len
    have hrs := tb.rs.len
    have hpl4 := tb.plan.len.2.1
    refine BJ.pick ⟨tb.m, tb.mw, tb.mr, alive, by rw [ws]; exact ⟨(fun _ h => by cases h), List.nodup_nil, Nat.zero_le _⟩, by rw [ws]; show 0 + 1 ≤ u.i; omega, by omega, tb.plan.at4, by omega, by omega, hf, .inl ⟨busy, job⟩⟩ busy hz
  | rd1 d pv tb busy alive sure phased job ws old i lt hd at_ hat xi pre st =>
    have hrl' := hrl tb
    exact busy_pick busy ⟨⟨hmok tb.m, (fun j => (by rw [job] at j; cases j)), (fun j => (by rw [job] at j; cases j)), (fun j => (by rw [job] at j; cases j))⟩, (by rw [job]; decide), hsz tb.m, (fun j => (by rw [job] at j; cases j)), (by omega), (by omega)⟩
  | rd2 d pv tb busy alive sure phased job ws old i lt hd at_ hat xi pre st =>
    have hrl' := hrl tb
    exact busy_pick busy ⟨⟨hmok tb.m, (fun j => (by rw [job] at j; cases j)), (fun j => (by rw [job] at j; cases j)), (fun j => (by rw [job] at j; cases j))⟩, (by rw [job]; decide), hsz tb.m, (fun j => (by rw [job] at j; cases j)), (by omega), (by omega)⟩
  | lk W cb sure xi lt old st => exact busy_pick cb.busy (hcb cb (by rcases st with st | ⟨st, _⟩ <;> rw [st] <;> decide) (fun _ => by omega) (.inl (hrne cb)))
  | bp W q cb sure full old st bump => exact busy_pick cb.busy (hcb cb (by rw [st]; decide) (fun e => by rw [st] at e; cases e) (.inl (hrne cb)))
  | ckd W q cb sure full old st lt top val => exact busy_pick cb.busy (hcb cb (by rw [st]; decide) (fun e => by rw [st] at e; cases e) (.inl (hrne cb)))
  | wr W q S cb st lt top ne => exact busy_pick cb.busy (hcb cb (by rw [st]; decide) (fun e => by rw [st] at e; cases e) (.inl (hrne cb)))
  | fr W q S cb st lt top => exact busy_pick cb.busy (hcb cb (by rw [st]; decide) (fun e => by rw [st] at e; cases e) (.inl (hrne cb)))
  | en tb busy job st i so =>
    have hrl' := hrl tb
    exact busy_pick busy ⟨⟨hmok tb.m, (fun _ e => (by rw [st] at e; cases e)), (fun _ e => (by rw [st] at e; cases e)), (fun _ _ e => (by rw [st] at e; rcases e with e | e | e <;> cases e))⟩, (by rw [job]; decide), hsz tb.m, (fun j => (by rw [job] at j; cases j)), (by omega), (by omega)⟩
  | un tb busy job phased rows le xi old so =>
    have hrl' := hrl tb
    have hpl := tb.plan.len.1
    exact busy_pick busy ⟨⟨hmok tb.m, (fun j => (by rw [job] at j; cases j)), (fun j => (by rw [job] at j; cases j)), (fun j => (by rw [job] at j; cases j))⟩, (by rw [job]; decide), hsz tb.m, (fun _ hl => Nat.lt_of_lt_of_le hl le), (by omega), (by omega)⟩
end

end Go.Proofs.Ytjfinnjmcnjciaa

namespace Go.Proofs.Ytjfinnjmcnjciaa
open Go.RowKit
attribute [local go_sem] Later.cell Later.frozen

def ptV : Option Nat → Value
  | none => .pointer none
  | some b => .pointer (some ⟨b, 0, none⟩)
/-- Another run's step leaves this one as it is. -/
theorem RX.other {W W' : World} {ρ ρ' : Nat → Nat} {r' ub : Nat} {u : RU} {B mb : Nat} {vw : Value} {s s' : MS} {N : Nat} (h : RX W ρ r' ub u B mb vw s N) (hm : Mem W' B mb vw s') {S : Nat → Prop} (hw : Wrote S W W') (hs : ∀ k, k < W.heap.size → S k → r' < ρ k → ρ k < r' + 11 → False) (hg : Gr ρ ρ' W) : RX W' ρ' r' ub u B mb vw s' N := by
  obtain ⟨p, l, m, hp, hx, hn, h1, h2⟩ := h
  have hw2 : Wrote (fun k => S k ∧ k < W.heap.size) W W' := hw.mono fun k hk hs => ⟨hs, hk⟩
  refine ⟨p, l, m, hp, ⟨(hx.px.gr hg).kept hw2 fun k ho hk => ?_, hm, fun k hk => ?_⟩, (hn.gr hg).kept hw2 fun k h3 h4 hk => ?_, h1, h2⟩
  · have h5 := ho.1
    have h6 := ho.2
    rw [hg k hk.2] at h5 h6
    exact hs k hk.2 hk.1 h5 (by omega)
  · have hlt : k < W.heap.size := by
      rcases hk with rfl | hk
      · exact hx.mem.lt
      · exact (hx.mem.row.lt k hk).2
    rw [hg k hlt]
    exact hx.m0 k hk
  · rw [hg k hk.2] at h3 h4
    exact hs k hk.2 hk.1 (by omega) (by omega)

/-- Three runs, one memory; w: the world at the law's beginning. -/
structure Tog (w : World) (g1 ab mb : Nat) (vw sv : Value) (ns : List Int) (pt : Nat → Option Nat) (us : Nat → RU) (s : MS) (N : Nat) (W : World) : Prop where
  ex : ∃ ρ, (∀ t, t < 3 → ∀ ub, pt t = some ub → RX W ρ (12 * t) ub (us t) w.heap.size mb vw s N) ∧ (∀ k, k < w.heap.size → ρ k = 99) ∧ ρ g1 = 0 ∧ ρ ab = 0 ∧ (∀ k, MemS mb vw k → ρ k = 0) ∧ ∀ k, sv.ownBlock = some k → ρ k = 0
  mem : Mem W w.heap.size mb vw s
  map : W.heap[g1]? = some (.cells #[.int .i64 3, .int .i64 1, .int .i64 3, .int .i64 0, .int .i64 4] 31 (0, 0))
  arr : W.heap[ab]? = some (.cells #[ptV (pt 0), ptV (pt 1), ptV (pt 2)] 83 (0, 0))
  nm : ¬ MemS mb vw g1
  na : ¬ MemS mb vw ab
  ne : g1 ≠ ab
  old : w.heap.size ≤ ab
  sums : JL W w.heap.size sv ns
  sep : ∀ k, sv.ownBlock = some k → ¬ MemS mb vw k ∧ k ≠ g1 ∧ k ≠ ab
  below : Below w.heap.size w W
section
variable {w W W2 : World} {g1 ab mb : Nat} {vw sv : Value} {ns : List Int} {pt : Nat → Option Nat} {us : Nat → RU} {s : MS} {N : Nat}
theorem Tog.later (h : Tog w g1 ab mb vw sv ns pt us s N W) (hb : Below W.heap.size W W2) : Tog w g1 ab mb vw sv ns pt us s N W2 := by
  obtain ⟨ρ, hx, h1, h2, h3, h4, h5⟩ := h.ex
  exact ⟨⟨ρ, fun t ht ub hp => (hx t ht ub hp).below hb, h1, h2, h3, h4, h5⟩, h.mem.kept (Wrote.of_below hb (fun _ => False)) (fun _ _ h => h), (hb.block _ (lt_of_block h.map)).trans h.map, (hb.block _ (lt_of_block h.arr)).trans h.arr, h.nm, h.na, h.ne, h.old, h.sums.kept (Wrote.of_below hb (fun _ => False)) (fun _ _ h => h), h.sep, bthen h.below hb⟩
theorem Tog.mono (h : Tog w g1 ab mb vw sv ns pt us s N W) {M : Nat} (hm : N ≤ M) : Tog w g1 ab mb vw sv ns pt us s M W := by
  obtain ⟨ρ, hx, h1, h2, h3, h4, h5⟩ := h.ex
  exact ⟨⟨ρ, fun t ht ub hp => (hx t ht ub hp).mono hm, h1, h2, h3, h4, h5⟩, h.mem, h.map, h.arr, h.nm, h.na, h.ne, h.old, h.sums, h.sep, h.below⟩
theorem Tog.ptc (h : Tog w g1 ab mb vw sv ns pt us s N W) {t : Nat} (ht : t < 3) : W.cell? ⟨ab, t, none⟩ = some (ptV (pt t)) := by
  have h3 : t = 0 ∨ t = 1 ∨ t = 2 := by omega
  rcases h3 with rfl | rfl | rfl
  · exact cell_of_blk h.arr 0
  · exact cell_of_blk h.arr 1
  · exact cell_of_blk h.arr 2
theorem Tog.cells (h : Tog w g1 ab mb vw sv ns pt us s N W) : (W.cell? ⟨g1, 0, none⟩ = some (.int .i64 3) ∧ W.cell? ⟨g1, 1, none⟩ = some (.int .i64 1) ∧ W.cell? ⟨g1, 2, none⟩ = some (.int .i64 3) ∧ W.cell? ⟨g1, 3, none⟩ = some (.int .i64 0) ∧ W.cell? ⟨g1, 4, none⟩ = some (.int .i64 4)) ∧ (∀ i, W.frozen? ⟨g1, i, none⟩ = false) ∧ g1 < W.heap.size ∧ (∀ i, W.frozen? ⟨ab, i, none⟩ = false) ∧ ab < W.heap.size :=
  ⟨⟨cell_of_blk h.map 0, cell_of_blk h.map 1, cell_of_blk h.map 2, cell_of_blk h.map 3, cell_of_blk h.map 4⟩, fun i => frozen_of_blk h.map i, lt_of_block h.map, fun i => frozen_of_blk h.arr i, lt_of_block h.arr⟩
/-- A run's own cells. -/
theorem Tog.run (h : Tog w g1 ab mb vw sv ns pt us s N W) {t ub : Nat} (ht : t < 3) (hp : pt t = some ub) : (∃ xb, W.cell? ⟨ub, 0, none⟩ = some (.pointer (some ⟨xb, 0, none⟩))) ∧ W.cell? ⟨ub, 4, none⟩ = some (.int .i64 (us t).fin) ∧ (∃ a c, W.cell? ⟨ub, 5, none⟩ = some (.slice a (us t).read.length c) ∧ WRow W a (us t).read.length (rdW (us t).read)) ∧ (∀ i, W.frozen? ⟨ub, i, none⟩ = false) ∧ ub < W.heap.size := by
  obtain ⟨ρ, hx, _⟩ := h.ex
  obtain ⟨p, l, m, _, _, hn, _, _⟩ := hx t ht ub hp
  obtain ⟨f0, _, _, _, f4, f5, ff⟩ := hn.facts
  obtain ⟨a, c, e, hr⟩ := hn.rd.form
  rw [e] at f5
  rw [rdW_len] at f5 hr
  exact ⟨⟨_, f0⟩, f4, ⟨a, c, f5, hr⟩, ff, hn.lt⟩
theorem Tog.peek (h : Tog w g1 ab mb vw sv ns pt us s N W) (a : Int) : Calls Try.prog 21 #[.pointer (some ⟨mb, 0, none⟩), .int .i64 a] W fun e W2 => e = .returned (.int .i64 (s.vAt a)) ∧ W = W2 := Peek_at a W _ mb vw s h.mem
theorem Tog.store (h : Tog w g1 ab mb vw sv ns pt us s N W) (a v : Int) : Calls Try.prog 34 #[.pointer (some ⟨mb, 0, none⟩), .int .i64 a, .int .i64 v] W fun e W2 => e = .returned (.int .i64 (s.eAt a)) ∧ Tog w g1 ab mb vw sv ns pt us (s.stored a v) N W2 := by
  obtain ⟨ρ, hx, h1, h2, h3, h4, h8⟩ := h.ex
  refine (Store_at a v W w.heap.size mb vw s h.mem).mono ?_
  rintro e W2 ⟨rfl, hm, hw⟩
  refine ⟨rfl, ⟨ρ, fun t ht ub hp => (hx t ht ub hp).other hm hw (fun k _ hk h5 h6 => by have := h4 k hk; omega) (Gr.refl _ _), h1, h2, h3, h4, h8⟩, hm, (hw.block _ (lt_of_block h.map) h.nm).trans h.map, (hw.block _ (lt_of_block h.arr) h.na).trans h.arr, h.nm, h.na, h.ne, h.old, h.sums.kept hw (fun k hk => (h.sep k hk).1), h.sep, h.below.trans (hw.below h.below.size fun k hk hs => ?_)⟩
  have := h1 k hk
  have := h4 k hs
  omega
theorem Tog.next (h : Tog w g1 ab mb vw sv ns pt us s N W) {t ub : Nat} (ht : t < 3) (hp : pt t = some ub) (hj : ∃ J : RU → Prop, J (us t) ∧ (∀ v, J v → v.busy = false → v.fin = 0 → AskOk v ∧ J (askR v)) ∧ ((asksR 9 (us t)).busy = true ∨ (asksR 9 (us t)).fin ≠ 0) ∧ ((asksR 9 (us t)).fin = 0 → StOk s (asksR 9 (us t)))) (hN : N ≤ 80000) :
    Calls Try.prog 54 #[.pointer (some ⟨ub, 0, none⟩), .pointer (some ⟨mb, 0, none⟩), .agg #[.int .i64 3, .int .i64 1, .int .i64 3, .int .i64 0, .int .i64 4]] W fun e W2 => e = .returned (.tuple #[]) ∧ Tog w g1 ab mb vw sv ns pt (fset us t (nextR s (us t)).1) (nextR s (us t)).2 (N + 10) W2 := by
  obtain ⟨J, j1, j2, j3, j4⟩ := hj
  obtain ⟨ρ, hx, h1, h2, h3, h4, h8⟩ := h.ex
  refine (rnext_any (hx t ht ub hp) j1 j2 j3 j4 hN).mono ?_
  rintro e W2 ⟨rfl, ρ', g, x', k⟩
  have hm : Mem W2 w.heap.size mb vw (nextR s (us t)).2 := by obtain ⟨_, _, _, _, hx', _⟩ := x'; exact hx'.mem
  have h0 : ∀ k, MemS mb vw k → ρ' k = 0 := x'.m0
  have hmap := lt_of_block h.map
  have harr := lt_of_block h.arr
  refine ⟨rfl, ⟨ρ', fun t' ht' ub' hp' => ?_, fun i hi => (g i (Nat.lt_of_lt_of_le hi h.below.size)).trans (h1 i hi), (g _ hmap).trans h2, (g _ harr).trans h3, h0, fun i hi => (g i (JL.old h.sums hi).2).trans (h8 i hi)⟩, hm, (k.block _ hmap fun hs => ?_).trans h.map, (k.block _ harr fun hs => ?_).trans h.arr, h.nm, h.na, h.ne, h.old, h.sums.kept k (fun i hi hs => ?_), h.sep, h.below.trans (k.below h.below.size fun i hi hs => ?_)⟩
  · by_cases e : t' = t
    · subst e
      rw [fset_at]
      rw [hp] at hp'
      injection hp' with hp'
      subst hp'
      exact x'
    · rw [fset_ne _ _ e]
      refine ((hx t' ht' ub' hp').mono (Nat.le_add_right _ 10)).other hm k (fun i _ hs h5 h6 => ?_) g
      rcases hs with hs | hs
      · have := hs.1
        have := hs.2
        omega
      · have := h4 i hs; omega
  · rcases hs with hs | hs
    · have := hs.1; omega
    · exact h.nm hs
  · rcases hs with hs | hs
    · have := hs.1; omega
    · exact h.na hs
  · rcases hs with hs | hs
    · have := hs.1; have := h8 i hi; omega
    · exact (h.sep i hi).1 hs
  · have h5 := h1 i hi
    rcases hs with hs | hs
    · have := hs.2; omega
    · have := h4 i hs; omega
/-- A run's plan is laid. -/
structure TogP (w : World) (g1 ab mb : Nat) (vw sv : Value) (ns : List Int) (pt : Nat → Option Nat) (us : Nat → RU) (s : MS) (N t pb : Nat) (pl : Pl) (ρ : Nat → Nat) (W : World) : Prop where
  tog : Tog w g1 ab mb vw sv ns pt us s N W
  ex : (∀ t', t' < 3 → t' ≠ t → ∀ ub, pt t' = some ub → RX W ρ (12 * t') ub (us t') w.heap.size mb vw s N) ∧ (∀ k, k < w.heap.size → ρ k = 99) ∧ ρ g1 = 0 ∧ ρ ab = 0 ∧ (∀ k, MemS mb vw k → ρ k = 0) ∧ ρ pb = 12 * t + 10 ∧ ∀ k, sv.ownBlock = some k → ρ k = 0
  plan : PlRow W (some ⟨pb, 0, none⟩) pl.length pl
  lt : pb < W.heap.size
theorem Tog.plan (h : Tog w g1 ab mb vw sv ns pt us s N W) (t : Nat) {pl : Pl} {cs : Array Value} (hcs : cs = (opCells pl).toArray) : ∃ ρ, TogP w g1 ab mb vw sv ns pt us s N t W.heap.size pl ρ (W.alloc (.cells cs 88)) := by
  have hb := bnew (bid W) (.cells cs 88)
  obtain ⟨ρ, hx, h1, h2, h3, h4, h8⟩ := h.ex
  have hlt : ∀ k, MemS mb vw k → k < W.heap.size := fun k hk => by
    rcases hk with rfl | hk
    · exact h.mem.lt
    · exact (h.mem.row.lt k hk).2
  refine ⟨newR ρ W.heap.size (12 * t + 10), h.later hb, ⟨fun t' ht' _ ub hp => (hx t' ht' ub hp).other (h.later hb).mem (Wrote.of_below hb (fun _ => False)) (fun _ _ h => h.elim) (newR_gr ρ W _), fun k hk => (newR_old (Nat.lt_of_lt_of_le hk h.below.size)).trans (h1 k hk), (newR_old (lt_of_block h.map)).trans h2, (newR_old (lt_of_block h.arr)).trans h3, fun k hk => (newR_old (hlt k hk)).trans (h4 k hk), newR_new (Nat.le_refl _), fun k hk => (newR_old (JL.old h.sums hk).2).trans (h8 k hk)⟩, ⟨rfl, .inr ⟨_, 0, rfl, by rw [size_alloc1]; omega, fun k p hk => ?_⟩⟩, by rw [size_alloc1]; omega⟩
  subst hcs
  obtain ⟨c0, c1, c2⟩ := opCells_at pl k p hk
  have hblk := heap_alloc_new W (.cells (opCells pl).toArray 88)
  rw [Nat.zero_add]
  refine ⟨?_, ?_, ?_⟩
  · rw [cell_of_blk hblk (k * 3), List.getElem?_toArray]; exact c0
  · rw [cell_of_blk hblk (k * 3 + 1), List.getElem?_toArray]; exact c1
  · rw [cell_of_blk hblk (k * 3 + 2), List.getElem?_toArray]; exact c2
theorem TogP.later {t pb : Nat} {pl : Pl} {ρ : Nat → Nat} (h : TogP w g1 ab mb vw sv ns pt us s N t pb pl ρ W) (hb : Below W.heap.size W W2) : TogP w g1 ab mb vw sv ns pt us s N t pb pl ρ W2 := by
  obtain ⟨hx, hr⟩ := h.ex
  exact ⟨h.tog.later hb, ⟨fun t' ht' hn ub hp => (hx t' ht' hn ub hp).below hb, hr⟩, h.plan.kept (Wrote.of_below hb (fun _ => False)) (fun _ _ _ h => h), Nat.lt_of_lt_of_le h.lt hb.size⟩
/-- The new run is in its place. -/
theorem TogP.new {t pb c xb : Nat} {pl : Pl} {ρ ρ' : Nat → Nat} {ck : Int} {l : PL} (ht : t < 3) (h : TogP w g1 ab mb vw sv ns pt us s N t pb pl ρ W) (hl : 0 < pl.length) (h50 : pl.length ≤ 50) (hg : Gr ρ ρ' W) (hx : PX W2 ρ' (12 * t) xb (PT.new mT (t : Int) ck 32 32 1000) l) (hb : Below W.heap.size W W2) :
    Tog w g1 ab mb vw sv ns (fset pt t (some W2.heap.size)) (fset us t (RU.new t ck pl)) s N ((W2.alloc (.cells #[.pointer (some ⟨xb, 0, none⟩), .slice (some ⟨pb, 0, none⟩) pl.length c, .int .i64 0, .bool false, .int .i64 0, .slice none 0 0] 87)).setCell ⟨ab, t, none⟩ (.pointer (some ⟨W2.heap.size, 0, none⟩))) := by
  have hP2 := h.later hb
  obtain ⟨g2, h1, h2, h3, h4, h5, h8⟩ := h.ex
  have hbA := bnew (bid W2) (.cells #[.pointer (some ⟨xb, 0, none⟩), .slice (some ⟨pb, 0, none⟩) pl.length c, .int .i64 0, .bool false, .int .i64 0, .slice none 0 0] 87)
  have hT := hP2.tog.later hbA
  have hblk := heap_alloc_new W2 (.cells #[.pointer (some ⟨xb, 0, none⟩), .slice (some ⟨pb, 0, none⟩) pl.length c, .int .i64 0, .bool false, .int .i64 0, .slice none 0 0] 87)
  have hplA := (hP2.plan).kept (Wrote.of_below hbA (fun _ => False)) (fun _ _ _ h => h)
  generalize hWA : W2.alloc (.cells #[.pointer (some ⟨xb, 0, none⟩), .slice (some ⟨pb, 0, none⟩) pl.length c, .int .i64 0, .bool false, .int .i64 0, .slice none 0 0] 87) = WA at *
  have sA : WA.heap.size = W2.heap.size + 1 := by rw [← hWA]; exact size_alloc1 _ _
  have s1 := h.tog.below.size
  have s2 := hb.size
  have hmap := lt_of_block h.tog.map
  have harr := lt_of_block h.tog.arr
  have hmlt : ∀ k, MemS mb vw k → k < W.heap.size := fun k hk => by
    rcases hk with rfl | hk
    · exact h.tog.mem.lt
    · exact (h.tog.mem.row.lt k hk).2
  have hr : ∀ k, k < W.heap.size → newR ρ' W2.heap.size (12 * t + 8) k = ρ k := fun k hk => by rw [newR_old (by omega)]; exact hg k hk
  have hab : newR ρ' W2.heap.size (12 * t + 8) ab = 0 := (hr ab harr).trans h3
  have hw : Wrote (fun k => k = ab) WA (WA.setCell ⟨ab, t, none⟩ (.pointer (some ⟨W2.heap.size, 0, none⟩))) := (Wrote.refl (fun k => k = ab) WA).setCell (p := ⟨ab, t, none⟩) (fun _ => rfl) _
  have hmemA : Mem WA w.heap.size mb vw s := hT.mem
  have hm0 : ∀ k, MemS mb vw k → newR ρ' W2.heap.size (12 * t + 8) k = 0 := fun k hk => (hr k (hmlt k hk)).trans (h4 k hk)
  have hmem : Mem (WA.setCell ⟨ab, t, none⟩ (.pointer (some ⟨W2.heap.size, 0, none⟩))) w.heap.size mb vw s := hmemA.kept hw fun k hk e => by subst e; exact h.tog.na hk
  have hnew : RX WA (newR ρ' W2.heap.size (12 * t + 8)) (12 * t) W2.heap.size (RU.new t ck pl) w.heap.size mb vw s N := by
    refine ⟨PT.new mT (t : Int) ck 32 32 1000, l, ⟨xb, some ⟨pb, 0, none⟩, c, .slice none 0 0⟩, RP.new _ _ _ _ _ _, ⟨(hx.gr (newR_gr ρ' W2 (12 * t + 8))).below hbA, hmemA, hm0⟩, ⟨hblk, hplA, WL.nil _ _, newR_new (Nat.le_refl _), (fun k hk => by simp [Value.ownBlock] at hk), fun x hx hl => ?_, by show 0 ≤ 100; omega, h50⟩, Nat.zero_le _, Nat.zero_le _⟩
    injection hx with hx
    subst hx
    have hlt := h.lt
    exact ⟨(hr pb hlt).trans h5, by show pb < WA.heap.size; omega⟩
  have harrS : (WA.setCell ⟨ab, t, none⟩ (.pointer (some ⟨W2.heap.size, 0, none⟩))).heap[ab]? = some (.cells #[ptV (fset pt t (some W2.heap.size) 0), ptV (fset pt t (some W2.heap.size) 1), ptV (fset pt t (some W2.heap.size) 2)] 83 (0, 0)) := by
    rw [blk_setCell hT.arr t]
    have h3 : t = 0 ∨ t = 1 ∨ t = 2 := by omega
    rcases h3 with rfl | rfl | rfl <;> rfl
  refine ⟨⟨newR ρ' W2.heap.size (12 * t + 8), fun t' ht' ub hp => ?_, fun k hk => (hr k (by omega)).trans (h1 k hk), (hr g1 hmap).trans h2, hab, hm0, fun k hk => (hr k (JL.old h.tog.sums hk).2).trans (h8 k hk)⟩, hmem, (hw.block _ (lt_of_block hT.map) h.tog.ne).trans hT.map, harrS, h.tog.nm, h.tog.na, h.tog.ne, h.tog.old, JL.kept hT.sums hw (fun k hk e => (h.tog.sep k hk).2.2 e), h.tog.sep, hT.below.trans (hw.below hT.below.size fun k hk e => by have := h.tog.old; omega)⟩
  by_cases e : t' = t
  · subst e
    rw [fset_at] at hp ⊢
    injection hp with hp
    subst hp
    exact hnew.other hmem hw (fun k _ e h5 h6 => by subst e; rw [hab] at h5; omega) (Gr.refl _ _)
  · rw [fset_ne _ _ e] at hp ⊢
    have hx2 := g2 t' ht' e ub hp
    have hg2 : Gr ρ (newR ρ' W2.heap.size (12 * t + 8)) W := fun k hk => hr k hk
    have hbW : Below W.heap.size W WA := bthen hb hbA
    have hx3 := hx2.other hmemA (Wrote.of_below hbW (fun _ => False)) (fun _ _ h => h.elim) hg2
    exact hx3.other hmem hw (fun k _ e h5 h6 => by subst e; rw [hab] at h5; omega) (Gr.refl _ _)
/-- None is there yet. -/
theorem Tog.start (us : Nat → RU) (hmap : W.heap[g1]? = some (.cells #[.int .i64 3, .int .i64 1, .int .i64 3, .int .i64 0, .int .i64 4] 31 (0, 0))) (hg : w.heap.size ≤ g1) (hm : Mem W w.heap.size mb vw s) (hnm : ¬ MemS mb vw g1) (hb : Below w.heap.size w W) :
    Tog w g1 W.heap.size mb vw (.slice none 0 0) [] (fun _ => none) us s N (W.alloc (.cells #[.pointer none, .pointer none, .pointer none] 83)) := by
  have hbA := bnew (bid W) (.cells #[.pointer none, .pointer none, .pointer none] 83)
  have hlt := lt_of_block hmap
  have hmlt : ∀ k, MemS mb vw k → w.heap.size ≤ k ∧ k < W.heap.size := fun k hk => by
    refine ⟨Nat.le_of_not_lt fun h => hm.old k h hk, ?_⟩
    rcases hk with rfl | hk
    · exact hm.lt
    · exact (hm.row.lt k hk).2
  refine ⟨⟨fun k => if k < w.heap.size then 99 else 0, (fun t ht ub hp => (by cases hp)), fun k hk => if_pos hk, if_neg (by omega), if_neg (by have := hb.size; omega), (fun k hk => if_neg (by have := (hmlt k hk).1; omega)), fun k hk => (by simp [Value.ownBlock] at hk)⟩, hm.kept (Wrote.of_below hbA (fun _ => False)) (fun _ _ h => h), (hbA.block _ hlt).trans hmap, heap_alloc_new _ _, hnm, fun h => by have := (hmlt _ h).2; omega, by omega, hb.size, JL.nil _ _, (fun k hk => (by simp [Value.ownBlock] at hk)), bthen hb hbA⟩
/-- One more sum is told. -/
theorem Tog.append (h : Tog w g1 ab mb vw sv ns pt us s N W) {v' : Value} {ms : List Int} (hj : JL W2 w.heap.size v' ms) (hw : Wrote (fun b => sv.ownBlock = some b) W W2) (ho : v'.ownBlock = sv.ownBlock ∨ v'.ownBlock = some W.heap.size) : Tog w g1 ab mb vw v' ms pt us s N W2 := by
  obtain ⟨ρ, hx, h1, h2, h3, h4, h8⟩ := h.ex
  have hmap := lt_of_block h.map
  have harr := lt_of_block h.arr
  have s1 := h.below.size
  have hlt : ∀ k, MemS mb vw k → k < W.heap.size := fun k hk => by
    rcases hk with rfl | hk
    · exact h.mem.lt
    · exact (h.mem.row.lt k hk).2
  have hm : Mem W2 w.heap.size mb vw s := h.mem.kept hw fun k hk e => (h.sep k e).1 hk
  refine ⟨⟨newR ρ W.heap.size 0, fun t ht ub hp => (hx t ht ub hp).other hm hw (fun k _ e h5 h6 => by have := h8 k e; omega) (newR_gr ρ W 0), fun k hk => (newR_old (by omega)).trans (h1 k hk), (newR_old hmap).trans h2, (newR_old harr).trans h3, fun k hk => (newR_old (hlt k hk)).trans (h4 k hk), fun k hk => ?_⟩, hm, (hw.block _ hmap fun e => (h.sep _ e).2.1 rfl).trans h.map, (hw.block _ harr fun e => (h.sep _ e).2.2 rfl).trans h.arr, h.nm, h.na, h.ne, h.old, hj, fun k hk => ?_, h.below.trans (hw.below s1 fun k hk e => ?_)⟩
  · rcases ho with e | e
    · rw [e] at hk; exact (newR_old (JL.old h.sums hk).2).trans (h8 k hk)
    · rw [e] at hk; injection hk with hk; subst hk; exact newR_new (Nat.le_refl _)
  · rcases ho with e | e
    · rw [e] at hk; exact h.sep k hk
    · rw [e] at hk
      injection hk with hk
      subst hk
      exact ⟨fun h => by have := hlt _ h; omega, by omega, by omega⟩
  · have := (JL.old h.sums e).1; omega
end

end Go.Proofs.Ytjfinnjmcnjciaa

namespace Go.Proofs.Ytjfinnjmcnjciaa
open Go.RowKit

def muT (pt : Nat → Option Nat) (us : Nat → RU) (t : Nat) : Nat := if pt t = none then 56 else mu (us t)
theorem muT_le (pt : Nat → Option Nat) (us : Nat → RU) (t : Nat) : muT pt us t ≤ 56 := by
  unfold muT
  split
  · exact Nat.le_refl _
  · by_cases h : (us t).fin = 0
    · have := (mu_pos h).1; omega
    · rw [mu_over h]; omega
/-- Behind i picks, L of which are drawn. -/
structure TI (ck : Int) (L i : Nat) (pt : Nat → Option Nat) (us : Nat → RU) (s : MS) : Prop where
  sim : ∃ A H Hc, Sim ck (i : Int) s us A H Hc
  nil0 : ∀ t, t < 3 → pt t = none → (us t).fin ≠ 0
  il : ∀ t, t < 3 → (us t).i ≤ (us t).plan.length + 1
  pr : pt 0 ≠ none → (us 0).plan = PR
  tail : L ≤ i → ∀ t, t < 3 → (pt t ≠ none ∧ (us t).fin ≠ 0) ∨ 3 * muT pt us t + (t + 3 - i % 3) % 3 + (i - L) ≤ 170
def dumR : RU := ⟨TX.new mT 0 1 32 32 1000, [], 0, false, 1, []⟩
theorem TI.start {ck : Int} (L : Nat) {s : MS} (hz : s.zs.length = 34) (hd : ∀ d : Nat, d < 4 → s.vAt (26 + 2 * (d : Int)) = 10) (h0 : ∀ q, q < 26 → s.vAt q = 0) : TI ck L 0 (fun _ => none) (fun _ => dumR) s := by
  refine ⟨⟨_, _, _, Sim.start hz hd h0 fun t ht => ⟨by show (1 : Int) ≠ 0; decide, fun hp => by simp [dumR, PR] at hp⟩⟩, fun t ht _ => by show (1 : Int) ≠ 0; decide, fun t ht => by show 0 ≤ 0 + 1; omega, fun h => absurd rfl h, fun hL t ht => .inr ?_⟩
  have := muT_le (fun _ => none) (fun _ => dumR) t
  omega
section
variable {ck : Int} {L i t : Nat} {pt : Nat → Option Nat} {us : Nat → RU} {s : MS}
theorem TI.pick (h : TI ck L i pt us s) (ht : t < 3) (hi : i ≤ 900) (hf : (us t).fin = 0) : ∃ J : RU → Prop, J (us t) ∧ (∀ v, J v → v.busy = false → v.fin = 0 → AskOk v ∧ J (askR v)) ∧ ((asksR 9 (us t)).busy = true ∨ (asksR 9 (us t)).fin ≠ 0) ∧ ((asksR 9 (us t)).fin = 0 → StOk s (asksR 9 (us t))) := by
  obtain ⟨A, H, Hc, hs⟩ := h.sim
  exact hs.pick ht (by omega) _ rfl hf (h.il t ht)
/-- What one that is over wants of a pick: nothing. -/
theorem over_pick {u : RU} {s : MS} (hf : u.fin ≠ 0) : ∃ J : RU → Prop, J u ∧ (∀ v, J v → v.busy = false → v.fin = 0 → AskOk v ∧ J (askR v)) ∧ ((asksR 9 u).busy = true ∨ (asksR 9 u).fin ≠ 0) ∧ ((asksR 9 u).fin = 0 → StOk s (asksR 9 u)) := by
  have e := asksR_end 9 hf
  refine ⟨fun v => v.fin ≠ 0, hf, fun v hv _ h0 => absurd h0 hv, .inr (by rw [e]; exact hf), fun h0 => ?_⟩
  rw [e] at h0
  exact absurd h0 hf
theorem TI.picks (h : TI ck L i pt us s) (ht : t < 3) (hi : i ≤ 900) : ∃ J : RU → Prop, J (us t) ∧ (∀ v, J v → v.busy = false → v.fin = 0 → AskOk v ∧ J (askR v)) ∧ ((asksR 9 (us t)).busy = true ∨ (asksR 9 (us t)).fin ≠ 0) ∧ ((asksR 9 (us t)).fin = 0 → StOk s (asksR 9 (us t))) := by
  by_cases hf : (us t).fin = 0
  · exact h.pick ht hi hf
  · exact over_pick hf
theorem dist_other {t i L m : Nat} (ht : t < 3) (hne : i % 3 ≠ t) (hL : L ≤ i) (h : m + (t + 3 - i % 3) % 3 + (i - L) ≤ 170) : m + (t + 3 - (i + 1) % 3) % 3 + (i + 1 - L) ≤ 170 := by omega
theorem dist_own {t i L m m' : Nat} (ht : t < 3) (he : i % 3 = t) (hL : L ≤ i) (hm : m' + 1 ≤ m) (h : 3 * m + (t + 3 - i % 3) % 3 + (i - L) ≤ 170) : 3 * m' + (t + 3 - (i + 1) % 3) % 3 + (i + 1 - L) ≤ 170 := by omega
/-- One that is there goes on. -/
theorem TI.next (h : TI ck L i pt us s) (ht : t < 3) (hck : ck = 1 ∨ ck = 2) (hi : i ≤ 900) (hp : pt t ≠ none) (hturn : L ≤ i → i % 3 = t) : TI ck L (i + 1) pt (fset us t (nextR s (us t)).1) (nextR s (us t)).2 := by
  obtain ⟨A, H, Hc, hs⟩ := h.sim
  have hnx := next_any hs ht hck (by omega)
  have hil := nextR_il (s := s) (h.il t ht)
  refine ⟨?_, fun t' ht' hn => ?_, fun t' ht' => ?_, fun h0 => ?_, fun hL t' ht' => ?_⟩
  · obtain ⟨A', H', Hc', h'⟩ := hnx
    exact ⟨A', H', Hc', by push_cast; exact h'⟩
  · by_cases e : t' = t
    · subst e; exact absurd hn hp
    · rw [fset_ne _ _ e]; exact h.nil0 t' ht' hn
  · by_cases e : t' = t
    · subst e; rw [fset_at]; exact hil.1
    · rw [fset_ne _ _ e]; exact h.il t' ht'
  · by_cases e : 0 = t
    · subst e; rw [fset_at, hil.2]; exact h.pr h0
    · rw [fset_ne _ _ e]; exact h.pr h0
  · by_cases hLi : L ≤ i
    · have htl := h.tail hLi
      by_cases e : t' = t
      · subst e
        rcases htl t' ht' with ⟨h1, h2⟩ | h1
        · exact .inl ⟨h1, by rw [fset_at, nextR_over h2]; exact h2⟩
        · by_cases hf : (us t').fin = 0
          · refine .inr (dist_own ht' (hturn hLi) hLi ?_ h1)
            have hm := mu_next hs ht' (by omega) _ rfl hf
            unfold muT
            rw [if_neg hp, if_neg hp, fset_at]
            omega
          · exact .inl ⟨hp, by rw [fset_at, nextR_over hf]; exact hf⟩
      · have e2 : muT pt (fset us t (nextR s (us t)).1) t' = muT pt us t' := by unfold muT; rw [fset_ne _ _ e]
        rcases htl t' ht' with ⟨h1, h2⟩ | h1
        · exact .inl ⟨h1, by rw [fset_ne _ _ e]; exact h2⟩
        · exact .inr (by rw [e2]; exact dist_other ht' (by rw [hturn hLi]; exact fun h => e h.symm) hLi h1)
    · have := muT_le pt (fset us t (nextR s (us t)).1) t'
      exact .inr (by omega)
/-- A new one begins. -/
theorem TI.begin (h : TI ck L i pt us s) (ht : t < 3) (hi : i ≤ 900) {p : Pl} (hpl : PlanOk p) (hp0 : t = 0 → p = PR) (hnew : pt t = none ∨ (us t).fin ≠ 0 ∧ i < L) (b : Nat) (hturn : L ≤ i → i % 3 = t) : TI ck L (i + 1) (fset pt t (some b)) (fset us t (nextR s (RU.new t ck p)).1) (nextR s (RU.new t ck p)).2 := by
  obtain ⟨A, H, Hc, hs⟩ := h.sim
  have hf : (us t).fin ≠ 0 := hnew.elim (h.nil0 t ht) (fun h => h.1)
  have hnx := hs.begin ht hf hpl
  have hil := nextR_il (s := s) (u := RU.new t ck p) (Nat.zero_le _)
  have hmu : mu (nextR s (RU.new t ck p)).1 ≤ 55 := by
    by_cases h0 : (nextR s (RU.new t ck p)).1.fin = 0
    · exact (mu_pos h0).1
    · rw [mu_over h0]; omega
  refine ⟨?_, fun t' ht' hn => ?_, fun t' ht' => ?_, fun h0 => ?_, fun hL t' ht' => ?_⟩
  · obtain ⟨A', H', Hc', h'⟩ := hnx
    exact ⟨A', H', Hc', by push_cast; exact h'⟩
  · by_cases e : t' = t
    · subst e; rw [fset_at] at hn; cases hn
    · rw [fset_ne _ _ e] at hn ⊢; exact h.nil0 t' ht' hn
  · by_cases e : t' = t
    · subst e; rw [fset_at]; exact hil.1
    · rw [fset_ne _ _ e]; exact h.il t' ht'
  · by_cases e : 0 = t
    · subst e; rw [fset_at, hil.2]; exact hp0 rfl
    · rw [fset_ne _ _ e] at h0 ⊢; exact h.pr h0
  · by_cases hLi : L ≤ i
    · have htl := h.tail hLi
      have hpn : pt t = Option.none := hnew.resolve_right (fun h => by omega)
      by_cases e : t' = t
      · subst e
        rcases htl t' ht' with ⟨h1, h2⟩ | h1
        · exact absurd hpn h1
        · refine .inr (dist_own ht' (hturn hLi) hLi ?_ h1)
          unfold muT
          rw [if_pos hpn, fset_at, fset_at, if_neg (by simp)]
          omega
      · have e2 : muT (fset pt t (some b)) (fset us t (nextR s (RU.new t ck p)).1) t' = muT pt us t' := by unfold muT; rw [fset_ne _ _ e, fset_ne _ _ e]
        rcases htl t' ht' with ⟨h1, h2⟩ | h1
        · exact .inl ⟨by rw [fset_ne _ _ e]; exact h1, by rw [fset_ne _ _ e]; exact h2⟩
        · exact .inr (by rw [e2]; exact dist_other ht' (by rw [hturn hLi]; exact fun h => e h.symm) hLi h1)
    · have := muT_le (fset pt t (some b)) (fset us t (nextR s (RU.new t ck p)).1) t'
      exact .inr (by omega)
/-- What the first one has read, when it has read all. -/
theorem TI.sum (h : TI ck L i pt us s) (hp : pt 0 ≠ none) (h4 : (us 0).read.length = 4) : ∃ a b c d : Int, (us 0).read = [(0, a), (1, b), (2, c), (3, d)] ∧ (a + b + c + d) % 18446744073709551616 = 40 := by
  obtain ⟨A, H, Hc, hs⟩ := h.sim
  exact hs.sums (t := 0) (by decide) (h.pr hp) h4
/-- All have ended. -/
theorem TI.ends (h : TI ck L (L + 300) pt us s) : ∀ t, t < 3 → (us t).fin ≠ 0 := fun t ht => by
  rcases h.tail (by omega) t ht with ⟨_, h2⟩ | h1
  · exact h2
  · omega
theorem TI.last (h : TI ck L (L + 300) pt us s) : (s.vAt 26 + s.vAt 28 + s.vAt 30 + s.vAt 32) % 18446744073709551616 = 40 ∧ ∀ t : Nat, t < 3 → s.vAt (11 + 2 * (t : Int)) = 0 := by
  obtain ⟨A, H, Hc, hs⟩ := h.sim
  exact hs.ends h.ends
theorem wrap_40 {x : Int} (h : x % 18446744073709551616 = 40) : wrap64 x = 40 := by unfold wrap64; omega
theorem sum_four (a b c d : Int) (h : (a + b + c + d) % 18446744073709551616 = 40) : wrap64 (wrap64 (wrap64 (wrap64 (0 + a) + b) + c) + d) = 40 := by unfold wrap64; omega
end

end Go.Proofs.Ytjfinnjmcnjciaa
