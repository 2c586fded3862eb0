/-
  The program's attempt with values: it claims; a step.
-/
import Derived.Test.YtjfinnjmcnjciaaNpG
namespace Go.Proofs.Ytjfinnjmcnjciaa
open Go.RowKit
attribute [local go_sem] Later.cell Later.frozen

variable {w w' : World} {ρ : Nat → Nat} {r b : Nat} {x : PT} {l : PL} {B mb : Nat} {vw : Value} {s s' : MS}
theorem wrapK (z : Int) : IntKind.i64.wrap z = wrap64 z := by
  rw [IntKind.wrap_i64]
  unfold wrap64
  omega
theorem acc7_yes {i : Nat} (h : s.okAt x.seqP x.stamp = true) : accP s x 7 i = (0, { x with claimed := true, made := x.next }, s.swapped x.seqP x.stamp (wrap64 (x.stamp + 1))) := by
  show (if s.okAt x.seqP x.stamp = true then _ else _) = _
  rw [h]; rfl
theorem acc7_no {i : Nat} (h : s.okAt x.seqP x.stamp = false) : accP s x 7 i = (-1, x, s.swapped x.seqP x.stamp (wrap64 (x.stamp + 1))) := by
  show (if s.okAt x.seqP x.stamp = true then _ else _) = _
  rw [h]; rfl
set_option maxHeartbeats 4000000 in
set_option maxRecDepth 100000 in
theorem claim_any (i : Nat) (h : PXM w ρ r b x l B mb vw s) : Calls Try.prog 112 #[.pointer (some ⟨b, 0, none⟩), .pointer (some ⟨mb, 0, none⟩)] w (AcRet w ρ r b B mb vw (accP s x 7 i)) := by
  have H := hid h
  have hlt := h.px.lt
  have c13 : w.cell? ⟨b, 13, none⟩ = some (.int .i64 x.stamp) := h.px.c 13
  have f13 := h.px.f 13
  cases hok : s.okAt x.seqP x.stamp with
  | true =>
    have HS2 := hid (fun W (hm : Mem W B mb vw s) => (by have := Swap_at x.seqP x.stamp (wrap64 (x.stamp + 1)) W B mb vw s hm; rw [hok] at this; rw [wrapK]; exact this : Calls Try.prog 136 #[.pointer (some ⟨mb, 0, none⟩), .int .i64 x.seqP, .int .i64 x.stamp, .int .i64 (IntKind.i64.wrap (x.stamp + 1))] W fun e w' => e = .returned (.tuple #[.int .i64 (s.vAt x.seqP), .bool true, .int .i64 (s.eAt x.seqP)]) ∧ Mem w' B mb vw (s.swapped x.seqP x.stamp (wrap64 (x.stamp + 1))) ∧ Wrote (MemS mb vw) W w'))
    have HE := hid (show accP s x 7 i = _ from acc7_yes hok)
    rw [HE.out]
    clear h hok HE
    generalize s.swapped x.seqP x.stamp (wrap64 (x.stamp + 1)) = s2 at *
    generalize s.vAt x.seqP = z at *
    generalize s.eAt x.seqP = ee at *
    go_enter Try.func112, Try.ntmps112
    go_wp2_with fail
    go_region_held3 (fun w' => w'.cell? ⟨b, 13, none⟩ = some (.int .i64 x.stamp)) (first | exact HX2.out.px.c 13 | exact HX.out.px.c 13 | exact (H.out.below (bdrew (bid _))).px.c 13) (first | (go_at_call 108; (with_reducible refine (tpseq_any (H.out.below (bdrew (bid _))).px).mono ?_); rintro e w1 ⟨rfl, hb⟩; have HX := hid ((H.out.below (bdrew (bid w))).below hb); have HW := hid (Wrote.of_below (bthen (bdrew (bid w)) hb) (OwnM ρ r mb vw)); clear hb) | (go_at_call 136; (with_reducible refine (HS2.out _ HX.out.mem).mono ?_); rintro e w2 ⟨rfl, hm, hw⟩; have HX2 := hid (HX.out.memd hm hw); have HW2 := hid (HW.out.trans (OwnM.mem hw)); clear hm hw))
    all_goals
      go_wp2_with (go_at_call 137; go_must ((with_reducible refine (next_any HX2.out.px).mono ?_); rintro e w3 ⟨rfl, hb⟩; have HX3 := hid (HX2.out.below hb); have HW3 := hid (HW2.out.trans (Wrote.of_below hb _)); clear hb; have c21 : w3.cell? ⟨b, 21, none⟩ = some (.bool x.claimed) := HX3.out.px.c 21; have fc21 := HX3.out.px.f 21; have c14 : w3.cell? ⟨b, 14, none⟩ = some (.int .i64 x.made) := HX3.out.px.c 14; have fc14 := HX3.out.px.f 14))
      go_ret
      have hp := HX3.out.put1 (x' := { x with claimed := true }) HW3.out 21 (.bool true) rfl rfl rfl
      have hp2 := hp.1.put1 (x' := { x with claimed := true, made := x.next }) hp.2 14 (.int .i64 x.next) rfl rfl rfl
      exact ⟨rfl, ρ, l, Gr.refl _ _, hp2.1, hp2.2⟩
  | false =>
    have HS2 := hid (fun W (hm : Mem W B mb vw s) => (by have := Swap_at x.seqP x.stamp (wrap64 (x.stamp + 1)) W B mb vw s hm; rw [hok] at this; rw [wrapK]; exact this : Calls Try.prog 136 #[.pointer (some ⟨mb, 0, none⟩), .int .i64 x.seqP, .int .i64 x.stamp, .int .i64 (IntKind.i64.wrap (x.stamp + 1))] W fun e w' => e = .returned (.tuple #[.int .i64 (s.vAt x.seqP), .bool false, .int .i64 (s.eAt x.seqP)]) ∧ Mem w' B mb vw (s.swapped x.seqP x.stamp (wrap64 (x.stamp + 1))) ∧ Wrote (MemS mb vw) W w'))
    have HE := hid (show accP s x 7 i = _ from acc7_no hok)
    rw [HE.out]
    clear h hok HE
    generalize s.swapped x.seqP x.stamp (wrap64 (x.stamp + 1)) = s2 at *
    generalize s.vAt x.seqP = z at *
    generalize s.eAt x.seqP = ee at *
    go_enter Try.func112, Try.ntmps112
    go_wp2_with fail
    go_region_held3 (fun w' => w'.cell? ⟨b, 13, none⟩ = some (.int .i64 x.stamp)) (first | exact HX2.out.px.c 13 | exact HX.out.px.c 13 | exact (H.out.below (bdrew (bid _))).px.c 13) (first | (go_at_call 108; (with_reducible refine (tpseq_any (H.out.below (bdrew (bid _))).px).mono ?_); rintro e w1 ⟨rfl, hb⟩; have HX := hid ((H.out.below (bdrew (bid w))).below hb); have HW := hid (Wrote.of_below (bthen (bdrew (bid w)) hb) (OwnM ρ r mb vw)); clear hb) | (go_at_call 136; (with_reducible refine (HS2.out _ HX.out.mem).mono ?_); rintro e w2 ⟨rfl, hm, hw⟩; have HX2 := hid (HX.out.memd hm hw); have HW2 := hid (HW.out.trans (OwnM.mem hw)); clear hm hw))
    all_goals
      go_wp2_with fail
      go_ret
      exact ⟨rfl, ρ, l, Gr.refl _ _, HX2.out, HW2.out⟩
set_option maxHeartbeats 4000000 in
set_option maxRecDepth 100000 in
theorem acc_7 (i : Nat) (h : PXM w ρ r b x l B mb vw s) : AccC w ρ r b x B mb vw s 7 i := by
  have HC := hid (claim_any i h)
  unfold AccC
  clear h
  go_enter Try.func71, Try.ntmps71
  go_wp2_with (go_at_call 112; go_must ((with_reducible refine HC.out.mono ?_); rintro e w1 ⟨rfl, hr⟩; have HR := hid hr; clear hr))
  go_ret
  exact ⟨rfl, HR.out⟩

/-- What a step asks. -/
structure AccOk (s : MS) (x : PT) : Prop where
  zs : x.m.size ≤ (s.zs.length : Int)
  dn : x.dn ≤ 100000
  all : ∀ p ∈ x.parts, isPart p
  left : ∀ p ps, x.parts = p :: ps → leftP x p = true
  few : x.parts.length ≤ 700
theorem acc_any (h : PXM w ρ r b x l B mb vw s) (ok : AccOk s x) {p : Int} {ps : List Int} (hp : x.parts = p :: ps) : AccC w ρ r b x B mb vw s p x.dn := by
  have hl := ok.left p ps hp
  rcases ok.all p (by rw [hp]; exact List.mem_cons_self) with rfl | rfl | rfl | rfl | rfl | rfl | rfl | rfl | rfl | rfl | rfl | rfl | rfl | rfl | rfl | rfl | rfl
  · exact acc_0 _ h
  · exact acc_1 _ h (of_decide_eq_true hl)
  · exact acc_2 _ h
  · exact acc_3 _ h (of_decide_eq_true hl)
  · exact acc_4 _ h
  · exact acc_5 _ h
  · exact acc_6 _ h
  · exact acc_7 _ h
  · exact acc_8 _ h (of_decide_eq_true hl)
  · exact acc_9 _ h
  · exact acc_10 _ h
  · exact acc_11 _ h
  · cases hl
  · cases hl
  · cases hl
  · cases hl
  · cases hl
theorem accP_same (s : MS) (x : PT) {p : Int} (hp : isPart p) (i : Nat) : (accP s x p i).2.1.dn = x.dn ∧ (accP s x p i).2.1.parts = x.parts := by
  rcases hp with rfl | rfl | rfl | rfl | rfl | rfl | rfl | rfl | rfl | rfl | rfl | rfl | rfl | rfl | rfl | rfl | rfl
  case inr.inr.inr.inr.inr.inr.inr.inl =>
    cases hok : s.okAt x.seqP x.stamp with
    | true => rw [acc7_yes hok]; exact ⟨rfl, rfl⟩
    | false => rw [acc7_no hok]; exact ⟨rfl, rfl⟩
  all_goals exact ⟨rfl, rfl⟩
theorem AcRet.of_tp {ρ1 : Nat → Nat} {w1 : World} {y : PT} {l1 : PL} {v : Int × PT} {e : Ending} (hx : PXM w1 ρ1 r b y l1 B mb vw s') (h : TpRet w1 ρ1 r b v e w') (hg : Gr ρ ρ1 w) (hw : Wrote (OwnM ρ r mb vw) w w1) : AcRet w ρ r b B mb vw (v.1, v.2, s') e w' := by
  obtain ⟨h1, ρ', l', g, p, k⟩ := h
  exact AcRet.from (w1 := w1) (ρ1 := ρ1) ⟨h1, ρ', l', g, hx.turn p g k, OwnM.own k⟩ hg hw
theorem wrap_dn {n : Nat} (h : n ≤ 100000) : wrap64 ((n : Int) + 1) = ((n + 1 : Nat) : Int) := by unfold wrap64; omega

theorem ahead_part (p : Int) : isPart (aheadP p) := by
  unfold aheadP
  split <;> simp [isPart]
set_option maxHeartbeats 4000000 in
set_option maxRecDepth 100000 in
theorem tpStep_any (h : PXM w ρ r b x l B mb vw s) (ok : AccOk s x) : Calls Try.prog 28 #[.pointer (some ⟨b, 0, none⟩), .pointer (some ⟨mb, 0, none⟩)] w (AcRet w ρ r b B mb vw (pStep s x)) := by
  have H := hid h
  have hlt := h.px.lt
  have c17 : w.cell? ⟨b, 16, none⟩ = some (.slice l.pa x.parts.length l.pc) := h.px.c 16
  have f17 := h.px.f 16
  cases hps : x.parts with
  | nil =>
    have HE := hid (show pStep s x = (1, x, s) from by unfold pStep; rw [hps])
    rw [hps] at c17
    clear h ok hps
    go_enter Try.func28, Try.ntmps28
    go_wp2_with fail
    go_quiet (fail)
    go_wp2_with fail
    go_ret
    rw [HE.out]
    exact ⟨rfl, ρ, l, Gr.refl _ _, H.out.below ⟨rfl, rfl, rfl, Nat.le_refl _, fun _ _ => rfl⟩, (Wrote.refl (OwnM ρ r mb vw) w).drewN _⟩
  | cons p ps =>
    have HE := hid (show pStep s x = stepsP s x p from by unfold pStep; rw [hps])
    have HPS := hid hps
    have HOK := hid ok
    obtain ⟨g, off, hpa, hgl, hc⟩ := h.px.parts.row.at (by rw [hps]; simp)
    have cp := hc 0 (by rw [hps]; simp)
    rw [hps] at cp
    have cp : w.cell? ⟨g, off, none⟩ = some (.int .i64 p) := cp
    rw [hpa] at c17
    have n1 : ((x.parts.length : Int) == 0) = false := by rw [beq_eq_false_iff_ne, hps]; simp only [List.length_cons]; omega
    have n2 : (0 : Int) < (x.parts.length : Int) := by rw [hps]; simp only [List.length_cons]; omega
    have c0 : w.cell? ⟨b, 0, none⟩ = some (.int .i64 x.m.s) := h.px.c 0
    have f0 := h.px.f 0
    have c1 : w.cell? ⟨b, 1, none⟩ = some (.int .i64 x.m.l) := h.px.c 1
    have f1 := h.px.f 1
    have c2 : w.cell? ⟨b, 2, none⟩ = some (.int .i64 x.m.t) := h.px.c 2
    have f2 := h.px.f 2
    have c3 : w.cell? ⟨b, 3, none⟩ = some (.int .i64 x.m.c) := h.px.c 3
    have f3 := h.px.f 3
    have c4 : w.cell? ⟨b, 4, none⟩ = some (.int .i64 x.m.d) := h.px.c 4
    have f4 := h.px.f 4
    have HLN := hid (fun (y : Later w) => Len_any y.v B mb vw s (h.below y.below).mem)
    have HSZ := hid (fun (y : Later w) => show Calls Try.prog 70 #[.agg #[.int .i64 x.m.s, .int .i64 x.m.l, .int .i64 x.m.t, .int .i64 x.m.c, .int .i64 x.m.d]] y.v (fun e w' => e = .returned (.int .i64 x.m.size) ∧ Below y.v.heap.size y.v w') from Size_any x.m y.v)
    have hz := ok.zs
    have hzd : decide ((s.zs.length : Int) < x.m.size) = false := decide_eq_false (by omega)
    clear h ok hps hc hz
    generalize x.parts.length = n at *
    go_enter Try.func28, Try.ntmps28
    go_wp2_with fail
    refine wp_region_later (by kernel_rfl) (by kernel_rfl) ?_
    repeat (go_big_quiet_step (first | (go_at_call 69; with_reducible exact later_same (HLN.out _)) | (go_at_call 70; with_reducible exact later_call (HSZ.out _))))
    refine wpQuiet_nil ?_
    rintro _ ⟨y, rfl⟩
    go_upto_region 3 with fail
    have HY := hid (H.out.below y.below)
    have HWY := hid (Wrote.of_below y.below (OwnM ρ r mb vw))
    clear c0 c1 c2 c3 c4 f0 f1 f2 f3 f4 HLN HSZ c17 f17 cp H
    generalize y.v = V at *
    have hV := HY.out
    have hlt := hV.px.lt
    have c17 : V.cell? ⟨b, 16, none⟩ = some (.slice l.pa x.parts.length l.pc) := hV.px.c 16
    have f17 := hV.px.f 16
    have c18 : V.cell? ⟨b, 17, none⟩ = some (.int .i64 x.dn) := hV.px.c 17
    have f18 := hV.px.f 17
    obtain ⟨g, off, hpa, hgl, hc⟩ := hV.px.parts.row.at (by rw [HPS.out]; simp)
    have cp := hc 0 (by rw [HPS.out]; simp)
    rw [HPS.out] at cp
    have cp : V.cell? ⟨g, off, none⟩ = some (.int .i64 p) := cp
    rw [hpa, HPS.out] at c17
    have n7 : (0 : Int) < (((p :: ps).length : Nat) : Int) := by simp only [List.length_cons]; omega
    generalize (p :: ps).length = m at c17 n7
    have HAC := hid (acc_any hV HOK.out HPS.out)
    have HSM := hid (accP_same s x (HOK.out.all p (by rw [HPS.out]; exact List.mem_cons_self)) x.dn)
    have HDN := hid HOK.out.dn
    have HALL := hid HOK.out.all
    have HFEW := hid HOK.out.few
    have HAHC := hid (fun W => ahead_any p W)
    have HAHP := hid (ahead_part p)
    clear hV hc hpa hzd HOK HY
    have HES := hid (show stepsP s x p = if (accP s x p x.dn).1 = 0 then ((goOnP { (accP s x p x.dn).2.1 with dn := x.dn + 1 }).1, (goOnP { (accP s x p x.dn).2.1 with dn := x.dn + 1 }).2, (accP s x p x.dn).2.2)
      else if (accP s x p x.dn).1 = -1 then ((goOnP (putP (putP (accP s x p x.dn).2.1 [2, 3, 13, aheadP p]) [0, 1])).1, (goOnP (putP (putP (accP s x p x.dn).2.1 [2, 3, 13, aheadP p]) [0, 1])).2, (accP s x p x.dn).2.2)
      else if (accP s x p x.dn).1 = -2 then ((goOnP (putP (accP s x p x.dn).2.1 [0, 1])).1, (goOnP (putP (accP s x p x.dn).2.1 [0, 1])).2, (accP s x p x.dn).2.2)
      else ((abortP (accP s x p x.dn).2.1 (accP s x p x.dn).1).1, (abortP (accP s x p x.dn).2.1 (accP s x p x.dn).1).2, (accP s x p x.dn).2.2) from rfl)
    unfold AccC at HAC
    obtain ⟨⟨cz, q, s2⟩, hq⟩ : ∃ v, accP s x p x.dn = v := ⟨_, rfl⟩
    rw [hq] at HAC HES HSM
    clear hq
    go_upto_region 5 with (go_at_call 71; go_must ((with_reducible refine HAC.out.mono ?_); rintro e w1 ⟨rfl, ρ1, l1, hg1, hx1, hw1⟩; have HG1 := hid (show Gr ρ ρ1 w from fun k hk => hg1 k (Nat.lt_of_lt_of_le hk HWY.out.size)); have HX1 := hid hx1; have HW1 := hid (HWY.out.trans hw1); clear hg1 hx1 hw1))
    clear HAC HWY c17 f17 c18 f18 cp
    have HNE := hid (show q.parts ≠ [] from fun e => by have := HSM.out.2; rw [HPS.out] at this; rw [show q.parts = [] from e] at this; cases this)
    have HQF := hid (show q.parts.length ≤ 700 from by rw [show q.parts = x.parts from HSM.out.2]; exact HFEW.out)
    have HQA := hid (show ∀ p' ∈ q.parts, isPart p' from fun p' hp' => HALL.out p' (by rw [← show q.parts = x.parts from HSM.out.2]; exact hp'))
    by_cases hcz : cz = 0
    · subst hcz
      have HES2 := hid (HES.out.trans (if_pos rfl))
      have d18 : w1.cell? ⟨b, 17, none⟩ = some (.int .i64 q.dn) := HX1.out.px.c 17
      have g18 := HX1.out.px.f 17
      rw [show q.dn = x.dn from HSM.out.1] at d18
      have hwd := wrap_dn HDN.out
      have hw2 := (Wrote.refl (fun k => k = b) w1).setCell (p := ⟨b, 17, none⟩) (fun _ => rfl) (.int .i64 ((x.dn + 1 : Nat) : Int))
      have HX2 := hid (HX1.out.upd (x' := { q with dn := x.dn + 1 }) (l' := l1) (blk_setCell HX1.out.px.blk 17 (.int .i64 ((x.dn + 1 : Nat) : Int))) hw2 rfl rfl rfl ⟨rfl, rfl⟩)
      have HW2 := hid (HX1.out.px.wr1 hw2)
      clear hw2
      generalize hN : x.dn + 1 = N at *
      go_upto_region 13 with fail
      refine wp_renamed (fun U => PXM U ρ1 r b { q with dn := N } l1 B mb vw s2 ∧ Wrote (Own ρ1 r) w1 U) ⟨HX2.out, HW2.out⟩ ?_
      clear HX2 HW2 d18 g18
      rintro U ⟨hx, hw⟩
      have HXU := hid hx
      have HWU := hid hw
      have HGO := hid (goOn_any hx.px (fun p' hp' => HQA.out p' hp'))
      clear hx hw
      go_wp2_with (go_at_call 74; go_must ((with_reducible refine HGO.out.mono ?_); rintro e w3 ⟨rfl, hr⟩; have HR := hid hr; clear hr))
      go_ret
      rw [HE.out, HES2.out]
      exact AcRet.of_tp (w1 := U) (ρ1 := ρ1) HXU.out ⟨rfl, HR.out⟩ HG1.out (HW1.out.then (OwnM.own (mb := mb) (vw := vw) HWU.out) (fun k hk ho => by
        have e := HG1.out k hk
        unfold OwnM Own at ho ⊢
        rw [e] at ho
        exact ho))
    · have hcz0 : (cz == 0) = false := by simpa using hcz
      have HES1 := hid (HES.out.trans (if_neg hcz))
      by_cases hc1 : cz = -1
      · subst hc1
        have HES2 := hid (HES1.out.trans (if_pos rfl))
        have HP1 := hid (fun (W : World) (hb : Below w1.heap.size w1 W) => putLit [2, 3, 13, aheadP p] #[.int .i64 2, .int .i64 3, .int .i64 13, .int .i64 (aheadP p)] rfl 4 rfl (by decide) (HX1.out.px.below hb) HNE.out (Nat.le_trans HQF.out (by decide)))
        generalize aheadP p = ap at *
        go_upto_region 11 with (first | (go_at_call 73; go_must ((with_reducible refine (HAHC.out _).mono ?_); rintro e w2 ⟨rfl, rfl⟩)) | (go_at_call 72; go_must ((with_reducible refine (HP1.out _ (bid _)).mono ?_); rintro e w4 ⟨rfl, ρ2, l2, hg2, hp2, hw2⟩; have HX2 := hid (HX1.out.turn hp2 hg2 hw2); have HG2 := hid (HG1.out.trans hg2 HW1.out.size); have HW2 := hid (HW1.out.then (OwnM.own (mb := mb) (vw := vw) hw2) (fun k hk ho => by (have e := HG1.out k hk; unfold OwnM Own at ho ⊢; rw [e] at ho; exact ho))); clear hg2 hp2 hw2)))
        have HP2 := hid (putLit [0, 1] #[.int .i64 0, .int .i64 1] rfl 2 rfl (by decide) HX2.out.px (by show [2, 3, 13, ap] ++ q.parts ≠ []; simp) (by show ([2, 3, 13, ap] ++ q.parts).length ≤ 800; rw [List.length_append]; have := HQF.out; simp; omega))
        go_upto_region 13 with (go_at_call 72; go_must ((with_reducible refine HP2.out.mono ?_); rintro e w5 ⟨rfl, ρ3, l3, hg3, hp3, hw3⟩; have HX3 := hid (HX2.out.turn hp3 hg3 hw3); have HG3 := hid (HG2.out.trans hg3 HW2.out.size); have HW3 := hid (HW2.out.then (OwnM.own (mb := mb) (vw := vw) hw3) (fun k hk ho => by (have e := HG2.out k hk; unfold OwnM Own at ho ⊢; rw [e] at ho; exact ho))); clear hg3 hp3 hw3))
        have HGO := hid (goOn_any HX3.out.px (by
          intro p' hp'
          have hp' : p' ∈ [0, 1] ++ ([2, 3, 13, ap] ++ q.parts) := hp'
          simp only [List.mem_append, List.mem_cons, List.not_mem_nil, or_false] at hp'
          rcases hp' with (rfl | rfl) | (rfl | rfl | rfl | rfl) | hp'
          · simp [isPart]
          · simp [isPart]
          · simp [isPart]
          · simp [isPart]
          · simp [isPart]
          · exact HAHP.out
          · exact HQA.out p' hp'))
        go_wp2_with (go_at_call 74; go_must ((with_reducible refine HGO.out.mono ?_); rintro e w6 ⟨rfl, hr⟩; have HR := hid hr; clear hr))
        go_ret
        rw [HE.out, HES2.out]
        exact AcRet.of_tp (w1 := w5) (ρ1 := ρ3) HX3.out ⟨rfl, HR.out⟩ HG3.out HW3.out
      · have hc1b : (cz == -1) = false := by simpa using hc1
        have HESB := hid (HES1.out.trans (if_neg hc1))
        by_cases hc2 : cz = -2
        · subst hc2
          have HES2 := hid (HESB.out.trans (if_pos rfl))
          have HP2 := hid (putLit [0, 1] #[.int .i64 0, .int .i64 1] rfl 2 rfl (by decide) HX1.out.px HNE.out (Nat.le_trans HQF.out (by decide)))
          go_upto_region 13 with (go_at_call 72; go_must ((with_reducible refine HP2.out.mono ?_); rintro e w5 ⟨rfl, ρ3, l3, hg3, hp3, hw3⟩; have HX3 := hid (HX1.out.turn hp3 hg3 hw3); have HG3 := hid (HG1.out.trans hg3 HW1.out.size); have HW3 := hid (HW1.out.then (OwnM.own (mb := mb) (vw := vw) hw3) (fun k hk ho => by (have e := HG1.out k hk; unfold OwnM Own at ho ⊢; rw [e] at ho; exact ho))); clear hg3 hp3 hw3))
          have HGO := hid (goOn_any HX3.out.px (by
            intro p' hp'
            have hp' : p' ∈ [0, 1] ++ q.parts := hp'
            simp only [List.mem_append, List.mem_cons, List.not_mem_nil, or_false] at hp'
            rcases hp' with (rfl | rfl) | hp'
            · simp [isPart]
            · simp [isPart]
            · exact HQA.out p' hp'))
          go_wp2_with (go_at_call 74; go_must ((with_reducible refine HGO.out.mono ?_); rintro e w6 ⟨rfl, hr⟩; have HR := hid hr; clear hr))
          go_ret
          rw [HE.out, HES2.out]
          exact AcRet.of_tp (w1 := w5) (ρ1 := ρ3) HX3.out ⟨rfl, HR.out⟩ HG3.out HW3.out
        · have hc2b : (cz == -2) = false := by simpa using hc2
          have HES2 := hid (HESB.out.trans (if_neg hc2))
          have HAB := hid (tpabort_any cz HX1.out.px)
          go_wp2_with (go_at_call 68; go_must ((with_reducible refine HAB.out.mono ?_); rintro e w3 ⟨rfl, hr⟩; have HR := hid hr; clear hr))
          go_ret
          rw [HE.out, HES2.out]
          exact AcRet.of_tp (w1 := w1) (ρ1 := ρ1) HX1.out ⟨rfl, HR.out⟩ HG1.out HW1.out

end Go.Proofs.Ytjfinnjmcnjciaa
