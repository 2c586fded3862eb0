/-
  The program's attempt: a step. The program's attempt: what it tells; its sets; a new one. The program's attempt: a new one.
-/
import Derived.Test.YtjfinnjmcnjciaaTpM
import Derived.Deep.RegionHeld3
namespace Go.Proofs.Ytjfinnjmcnjciaa
open Go.RowKit
attribute [local go_sem] Later.cell Later.frozen

variable {w w' : World} {ρ : Nat → Nat} {r b : Nat} {x : PT} {l : PL} {B mb : Nat} {vw : Value} {s s' : MS}
/-- What a step asks. -/
structure AccOk (s : MS) (x : PT) : Prop where
  zs : x.m.size ≤ (s.zs.length : Int)
  dn : x.dn ≤ 100000
  all : ∀ p ∈ x.parts, isPart p
  left : ∀ p ps, x.parts = p :: ps → leftP x p = true
  saw : ∀ ps, x.parts = 7 :: ps → x.dn % 2 = 1 → x.old.length < 16 ∧ I64 x.saw
  rows : ∀ ps, x.parts = 12 :: ps → x.dn < x.rows.length
theorem acc_any (h : PXM w ρ r b x l B mb vw s) (ok : AccOk s x) {p : Int} {ps : List Int} (hp : x.parts = p :: ps) : AccC w ρ r b x B mb vw s p x.dn := by
  have hl := ok.left p ps hp
  rcases ok.all p (by rw [hp]; exact List.mem_cons_self) with rfl | rfl | rfl | rfl | rfl | rfl | rfl | rfl | rfl | rfl | rfl | rfl | rfl | rfl | rfl | rfl | rfl
  · exact acc_0 _ h
  · exact acc_1 _ h
  · exact acc_2 _ h
  · exact acc_3 _ h
  · exact acc_4 _ h (of_decide_eq_true hl)
  · exact acc_6 _ h
  · exact acc_7 _ h (of_decide_eq_true hl) (ok.saw ps hp)
  · exact acc_8 _ h ok.zs
  · refine acc_9 _ h ?_
    cases ha : aloneP x with
    | true => rw [show leftP x 9 = false from if_pos ha] at hl; cases hl
    | false =>
      rw [show leftP x 9 = (if aloneP x = true then false else decide (x.dn < x.rs.length)) from rfl, ha, if_neg Bool.false_ne_true] at hl
      exact of_decide_eq_true hl
  · exact acc_10 _ h (of_decide_eq_true hl)
  · exact acc_11 _ h (of_decide_eq_true hl)
  · exact acc_12 _ h (ok.rows ps hp) (of_decide_eq_true hl)
  · exact acc_13 _ h
  · cases hl
  · cases hl
  · cases hl
  · cases hl
theorem takeP_same (s : MS) (x : PT) (row : Int) (seen : Bool) : (takeP s x row seen).2.1.dn = x.dn ∧ (takeP s x row seen).2.1.parts = x.parts := by
  unfold takeP
  split
  · split <;> exact ⟨rfl, rfl⟩
  · exact ⟨rfl, rfl⟩
theorem bumpP_same (s : MS) (x : PT) : (bumpP s x).2.1.dn = x.dn ∧ (bumpP s x).2.1.parts = x.parts := by
  unfold bumpP
  split <;> exact ⟨rfl, rfl⟩
theorem accP_same (s : MS) (x : PT) {p : Int} (hp : isPart p) (i : Nat) : (accP s x p i).2.1.dn = x.dn ∧ (accP s x p i).2.1.parts = x.parts := by
  rcases hp with rfl | rfl | rfl | rfl | rfl | rfl | rfl | rfl | rfl | rfl | rfl | rfl | rfl | rfl | rfl | rfl | rfl
  case inr.inr.inr.inr.inr.inr.inl => rw [acc_7_eq]; exact takeP_same _ _ _ _
  case inr.inr.inr.inr.inr.inr.inr.inl => exact bumpP_same s x
  all_goals exact ⟨rfl, rfl⟩
theorem AcRet.of_tp {ρ1 : Nat → Nat} {w1 : World} {y : PT} {l1 : PL} {v : Int × PT} {e : Ending} (hx : PXM w1 ρ1 r b y l1 B mb vw s') (h : TpRet w1 ρ1 r b v e w') (hg : Gr ρ ρ1 w) (hw : Wrote (OwnM ρ r mb vw) w w1) : AcRet w ρ r b B mb vw (v.1, v.2, s') e w' := by
  obtain ⟨h1, ρ', l', g, p, k⟩ := h
  exact AcRet.from (w1 := w1) (ρ1 := ρ1) ⟨h1, ρ', l', g, hx.turn p g k, OwnM.own k⟩ hg hw
theorem wrap_dn {n : Nat} (h : n ≤ 100000) : wrap64 ((n : Int) + 1) = ((n + 1 : Nat) : Int) := by unfold wrap64; omega

set_option maxHeartbeats 4000000 in
theorem tpStep_any (h : PXM w ρ r b x l B mb vw s) (ok : AccOk s x) : Calls Try.prog 48 #[.pointer (some ⟨b, 0, none⟩), .pointer (some ⟨mb, 0, none⟩)] w (AcRet w ρ r b B mb vw (pStep s x)) := by
  have H := hid h
  have hlt := h.px.lt
  have c17 := h.px.facts.2.2.2.1.1
  have f17 := h.px.facts.2.2.2.2.2.2 17
  cases hps : x.parts with
  | nil =>
    have HE := hid (show pStep s x = (1, x, s) from by unfold pStep; rw [hps])
    rw [hps] at c17
    clear h ok hps
    go_enter Try.func48, Try.ntmps48
    go_wp2_with fail
    go_quiet (fail)
    go_wp2_with fail
    go_ret
    rw [HE.out]
    exact ⟨rfl, ρ, l, Gr.refl _ _, H.out.below ⟨rfl, rfl, rfl, Nat.le_refl _, fun _ _ => rfl⟩, (Wrote.refl (OwnM ρ r mb vw) w).drewN _⟩
  | cons p ps =>
    have HE := hid (show pStep s x = stepsP s x p from by unfold pStep; rw [hps])
    have HPS := hid hps
    have HOK := hid ok
    obtain ⟨g, off, hpa, hgl, hc⟩ := h.px.parts.row.at (by rw [hps]; simp)
    have cp := hc 0 (by rw [hps]; simp)
    rw [hps] at cp
    have cp : w.cell? ⟨g, off, none⟩ = some (.int .i64 p) := cp
    rw [hpa] at c17
    have n0 : x.parts.length ≠ 0 := by rw [hps]; simp
    have n1 : ((x.parts.length : Int) == 0) = false := by rw [beq_eq_false_iff_ne]; omega
    have n2 : (0 : Int) < (x.parts.length : Int) := by omega
    obtain ⟨⟨c0, c1, c2, c3, c4⟩, _, _, _, _, _, cf⟩ := h.px.facts
    have f0 := cf 0
    have f1 := cf 1
    have f2 := cf 2
    have f3 := cf 3
    have f4 := cf 4
    have HLN := hid (fun (y : Later w) => Len_any y.v B mb vw s (h.below y.below).mem)
    have HSZ := hid (fun (y : Later w) => show Calls Try.prog 70 #[.agg #[.int .i64 x.m.s, .int .i64 x.m.l, .int .i64 x.m.t, .int .i64 x.m.c, .int .i64 x.m.d]] y.v (fun e w' => e = .returned (.int .i64 x.m.size) ∧ Below y.v.heap.size y.v w') from Size_any x.m y.v)
    have hz := ok.zs
    have hzd : decide ((s.zs.length : Int) < x.m.size) = false := decide_eq_false (by omega)
    clear h ok hps cf hc hz
    generalize x.parts.length = n at *
    go_enter Try.func48, Try.ntmps48
    go_wp2_with fail
    refine wp_region_later (by kernel_rfl) (by kernel_rfl) ?_
    repeat (go_big_quiet_step (first | (go_at_call 69; with_reducible exact later_same (HLN.out _)) | (go_at_call 70; with_reducible exact later_call (HSZ.out _))))
    refine wpQuiet_nil ?_
    rintro _ ⟨y, rfl⟩
    go_upto_region 3 with fail
    have HY := hid (H.out.below y.below)
    have HWY := hid (Wrote.of_below y.below (OwnM ρ r mb vw))
    clear c0 c1 c2 c3 c4 f0 f1 f2 f3 f4 HLN HSZ c17 f17 cp H
    generalize y.v = V at *
    have hV := HY.out
    have hlt := hV.px.lt
    have c17 := hV.px.facts.2.2.2.1.1
    have f17 := hV.px.facts.2.2.2.2.2.2 17
    have c18 := hV.px.facts.2.2.2.1.2
    have f18 := hV.px.facts.2.2.2.2.2.2 18
    obtain ⟨g, off, hpa, hgl, hc⟩ := hV.px.parts.row.at (by rw [HPS.out]; simp)
    have cp := hc 0 (by rw [HPS.out]; simp)
    rw [HPS.out] at cp
    have cp : V.cell? ⟨g, off, none⟩ = some (.int .i64 p) := cp
    rw [hpa, HPS.out] at c17
    have n7 : (0 : Int) < (((p :: ps).length : Nat) : Int) := by simp only [List.length_cons]; omega
    generalize (p :: ps).length = m at c17 n7
    have HAC := hid (fun (z : Later V) => acc_any (hV.below z.below) HOK.out HPS.out)
    have HSM := hid (accP_same s x (HOK.out.all p (by rw [HPS.out]; exact List.mem_cons_self)) x.dn)
    have HDN := hid HOK.out.dn
    have HALL := hid HOK.out.all
    clear hV hc hpa hzd
    refine wp_region_later_tail 12 (by kernel_rfl) (by kernel_rfl) ?_
    simp only [List.take_succ_cons, List.take_zero, List.drop_succ_cons, List.drop_zero]
    repeat (go_big_quiet_step (fail))
    refine wpQuiet_nil ?_
    rintro _ ⟨z, rfl⟩
    have HWZ := hid (HWY.out.trans (Wrote.of_below z.below _))
    have HES := hid (show stepsP s x p = if (accP s x p x.dn).1 ≠ 0 then ((abortP (accP s x p x.dn).2.1 (accP s x p x.dn).1).1, (abortP (accP s x p x.dn).2.1 (accP s x p x.dn).1).2, (accP s x p x.dn).2.2)
      else ((goOnP { (accP s x p x.dn).2.1 with dn := x.dn + 1 }).1, (goOnP { (accP s x p x.dn).2.1 with dn := x.dn + 1 }).2, (accP s x p x.dn).2.2) from rfl)
    unfold AccC at HAC
    obtain ⟨⟨cz, q, s2⟩, hq⟩ : ∃ v, accP s x p x.dn = v := ⟨_, rfl⟩
    rw [hq] at HAC HES HSM
    clear hq
    by_cases hcz : cz = 0
    · subst hcz
      rw [if_neg (show ¬ ((0 : Int) ≠ 0) from fun h => h rfl)] at HES
      go_upto_region 6 with (go_at_call 86; go_must ((with_reducible refine (HAC.out z).mono ?_); rintro e w1 ⟨rfl, ρ1, l1, hg1, hx1, hw1⟩; have HG1 := hid hg1; have HX1 := hid hx1; have HW1 := hid (HWZ.out.trans hw1); clear hg1 hx1 hw1))
      have d18 := HX1.out.px.facts.2.2.2.1.2
      have g18 := HX1.out.px.facts.2.2.2.2.2.2 18
      have HDQ := hid HSM.out.1
      rw [HDQ.out] at d18
      have hwd := wrap_dn HDN.out
      have hw2 := (Wrote.refl (fun k => k = b) w1).setCell (p := ⟨b, 18, none⟩) (fun _ => rfl) (.int .i64 ((x.dn + 1 : Nat) : Int))
      have HX2 := hid (HX1.out.upd (x' := { q with dn := x.dn + 1 }) (l' := l1) (blk_setCell HX1.out.px.blk 18 (.int .i64 ((x.dn + 1 : Nat) : Int))) hw2 rfl rfl rfl ⟨rfl, rfl⟩)
      have HW2 := hid (HX1.out.px.wr1 hw2)
      clear hw2 c17 f17 c18 f18 cp
      generalize hN : x.dn + 1 = N at *
      go_upto_region 7 with fail
      refine wp_renamed (fun U => PXM U ρ1 r b { q with dn := N } l1 B mb vw s2 ∧ Wrote (Own ρ1 r) w1 U) ⟨HX2.out, HW2.out⟩ ?_
      clear HX2 HW2 d18 g18
      rintro U ⟨hx, hw⟩
      have HXU := hid hx
      have HWU := hid hw
      have HGO := hid (goOn_any hx.px (by intro p' hp'; exact HALL.out p' (by rw [← HSM.out.2]; exact hp')))
      clear hx hw
      go_wp2_with (go_at_call 88; go_must ((with_reducible refine HGO.out.mono ?_); rintro e w3 ⟨rfl, hr⟩; have HR := hid hr; clear hr))
      go_ret
      rw [HE.out, HES.out]
      exact AcRet.of_tp (w1 := U) (ρ1 := ρ1) HXU.out ⟨rfl, HR.out⟩ (fun k hk => HG1.out k (Nat.lt_of_lt_of_le hk HWZ.out.size)) (HW1.out.then (OwnM.own (mb := mb) (vw := vw) HWU.out) (fun k hk ho => by
        have e := HG1.out k (Nat.lt_of_lt_of_le hk HWZ.out.size)
        unfold OwnM Own at ho ⊢
        rw [e] at ho
        exact ho))
    · have hczb : (cz != 0) = true := by simpa using hcz
      rw [if_pos hcz] at HES
      go_upto_region 5 with (go_at_call 86; go_must ((with_reducible refine (HAC.out z).mono ?_); rintro e w1 ⟨rfl, ρ1, l1, hg1, hx1, hw1⟩; have HG1 := hid hg1; have HX1 := hid hx1; have HW1 := hid (HWZ.out.trans hw1); clear hg1 hx1 hw1))
      have HAB := hid (tpabort_any cz HX1.out.px)
      go_wp2_with (go_at_call 87; go_must ((with_reducible refine HAB.out.mono ?_); rintro e w3 ⟨rfl, hr⟩; have HR := hid hr; clear hr))
      go_ret
      rw [HE.out, HES.out]
      exact AcRet.of_tp (w1 := w1) (ρ1 := ρ1) HX1.out ⟨rfl, HR.out⟩ (fun k hk => HG1.out k (Nat.lt_of_lt_of_le hk HWZ.out.size)) HW1.out

end Go.Proofs.Ytjfinnjmcnjciaa

namespace Go.Proofs.Ytjfinnjmcnjciaa
open Go.RowKit
attribute [local go_sem] Later.cell Later.frozen

variable {w w' : World} {ρ : Nat → Nat} {r b : Nat} {x : PT} {l : PL} {B mb : Nat} {vw : Value} {s s' : MS}
set_option maxHeartbeats 1000000 in
theorem tpValue_any (h : PX w ρ r b x l) : Calls Try.prog 52 #[.pointer (some ⟨b, 0, none⟩)] w fun e w' => e = .returned (.int .i64 x.val) ∧ w = w' := by
  have c := h.facts.2.2.1.2.2.2.2.2
  have f := h.facts.2.2.2.2.2.2 16
  clear h
  go_enter Try.func52, Try.ntmps52
  go_wp2
  go_ret
  exact ⟨rfl, rfl⟩
/-- What Sets comes to. -/
def SetsRet (w : World) (x : PT) (e : Ending) (w' : World) : Prop := ∃ va vb, e = .returned (.tuple #[va, vb]) ∧ NL w' w.heap.size va (x.rs.map fun p => p.1) ∧ WL w' w.heap.size vb x.ws ∧ Below w.heap.size w w'
end Go.Proofs.Ytjfinnjmcnjciaa

namespace Go.Proofs.Ytjfinnjmcnjciaa
open Go.RowKit
attribute [local go_sem] Later.cell Later.frozen

/-- What New comes to. -/
def TpNewRet (w : World) (ρ : Nat → Nat) (r : Nat) (x : PT) (e : Ending) (w' : World) : Prop := ∃ b ρ' l, e = .returned (.pointer (some ⟨b, 0, none⟩)) ∧ w.heap.size ≤ b ∧ Gr ρ ρ' w ∧ PX w' ρ' r b x l ∧ Below w.heap.size w w'
theorem tpnew_px {w w1 w2 : World} {ρ : Nat → Nat} {r b1 b2 : Nat} {m : PM} {th ck top : Int} {R1 R2 : Nat} (h1 : SetAt w1 b1 R1 []) (g1 : w.heap.size ≤ b1) (h2 : WSet w2 b2 R2 [] 0) (g2 : w1.heap.size ≤ b2) (k1 : Below w.heap.size w w1) (k2 : Below w1.heap.size w1 w2) (cs : Array Value)
    (hcs : cs = ptC (PT.new m th ck R1 R2 top) ⟨b1, b2, .slice none 0 0, .slice none 0 0, .slice none 0 0, none, 0⟩) :
    TpNewRet w ρ r (PT.new m th ck R1 R2 top) (.returned (.pointer (some ⟨w2.heap.size, 0, none⟩))) (w2.alloc (.cells cs 121)) := by
  have l1 := h1.lt
  have l2 := h2.lt
  have s1 := k1.size
  have s2 := k2.size
  have kk := bthen k1 k2
  refine ⟨w2.heap.size, fun k => if k < w.heap.size then ρ k else if k = b1 then r + 2 else if k = b2 then r + 3 else r + 1, ⟨b1, b2, .slice none 0 0, .slice none 0 0, .slice none 0 0, none, 0⟩, rfl, by omega, fun k hk => if_pos hk, ?_, bnew kk _⟩
  have ha := bnew (bid w2) (.cells cs 121)
  refine ⟨by rw [heap_alloc_new, hcs], ⟨(h1.below k2).below ha, h2.below ha, WL.nil _ _, NL.nil _ _, JL.nil _ _, ?_, ?_, ?_, (fun k hk => by simp [Value.ownBlock] at hk), (fun k hk => by simp [Value.ownBlock] at hk), (fun k hk => by simp [Value.ownBlock] at hk), Nat.zero_le _, Nat.zero_le _, Nat.zero_le _⟩, ⟨⟨rfl, .inl ⟨rfl, rfl⟩⟩, (fun a ha => by cases ha), Nat.le_refl _, Nat.zero_le _⟩⟩
  · show (if w2.heap.size < w.heap.size then _ else _) = _
    rw [if_neg (show ¬ w2.heap.size < w.heap.size by omega), if_neg (show ¬ w2.heap.size = b1 by omega), if_neg (show ¬ w2.heap.size = b2 by omega)]
  · show (if b1 < w.heap.size then _ else _) = _
    rw [if_neg (show ¬ b1 < w.heap.size by omega), if_pos rfl]
  · show (if b2 < w.heap.size then _ else _) = _
    rw [if_neg (show ¬ b2 < w.heap.size by omega), if_neg (show ¬ b2 = b1 by omega), if_pos rfl]

set_option maxHeartbeats 4000000 in
theorem tpNew_any (m : PM) (th ck room most top : Int) (w : World) (ρ : Nat → Nat) (r : Nat) (h0 : 0 ≤ m.at_ 4 th 0) (hck : ck = 1 ∨ ck = 2) :
    Calls Try.prog 82 #[m.v, .int .i64 th, .int .i64 ck, .int .i64 room, .int .i64 most, .int .i64 top] w (TpNewRet w ρ r (PT.new m th ck (capF room) (capF most) top)) := by
  have HT := hid (fun W => Thread_any m th 0 W)
  have hneg : ¬ m.at_ 4 th 0 < 0 := by omega
  generalize m.at_ 4 th 0 = z at *
  obtain ⟨s, l, t, c, d⟩ := m
  show Calls _ _ #[.agg #[.int .i64 s, .int .i64 l, .int .i64 t, .int .i64 c, .int .i64 d], _, _, _, _, _] _ _
  have HK := hid (fun (W0 W' : World) (h : W0.heap[w.heap.size]? = some (.cells #[.int .i64 s, .int .i64 l, .int .i64 t, .int .i64 c, .int .i64 d] 31 (0, 0))) (hb : Below W0.heap.size W0 W') => show W'.cell? ⟨w.heap.size, 0, none⟩ = some (.int .i64 s) ∧ W'.cell? ⟨w.heap.size, 1, none⟩ = some (.int .i64 l) ∧ W'.cell? ⟨w.heap.size, 2, none⟩ = some (.int .i64 t) ∧ W'.cell? ⟨w.heap.size, 3, none⟩ = some (.int .i64 c) ∧ W'.cell? ⟨w.heap.size, 4, none⟩ = some (.int .i64 d) from by
    have h' := (hb.block _ (lt_of_block h)).trans h
    exact ⟨cell_of_blk h' 0, cell_of_blk h' 1, cell_of_blk h' 2, cell_of_blk h' 3, cell_of_blk h' 4⟩)
  rcases hck with rfl | rfl
  · go_enter Try.func82, Try.ntmps82
    go_upto_region 3 with (go_at_call 25; go_must ((with_reducible refine (HT.out _).mono ?_); rintro e w1 ⟨rfl, hb⟩; have HB0 := hid (bthen (bnew (bid w) _) hb); have HG := hid ((hb.block w.heap.size (by rw [size_alloc1]; omega)).trans (heap_alloc_new w _)); clear hb))
    go_region_held3 (fun w' => w'.cell? ⟨w.heap.size, 0, none⟩ = some (.int .i64 s) ∧ w'.cell? ⟨w.heap.size, 1, none⟩ = some (.int .i64 l) ∧ w'.cell? ⟨w.heap.size, 2, none⟩ = some (.int .i64 t) ∧ w'.cell? ⟨w.heap.size, 3, none⟩ = some (.int .i64 c) ∧ w'.cell? ⟨w.heap.size, 4, none⟩ = some (.int .i64 d)) (first | exact HK.out _ _ HG.out (bnew HB2.out _) | exact HK.out _ _ HG.out HB2.out | exact HK.out _ _ HG.out HB1.out | exact HK.out _ _ HG.out (bdrew (bid _)))
      (first
        | (go_at_call 98; (with_reducible refine (RdNew_any _ _).mono ?_); rintro e w3 ⟨b1, rfl, g1, hs1, hb1⟩; have HS1 := hid hs1; have HG1 := hid g1; have HB1 := hid (bthen (bdrew (bid _)) hb1); clear hs1 hb1 g1)
        | (have _g := HB1; go_at_call 99; (with_reducible refine (wNew_any _ _).mono ?_); rintro e w4 ⟨b2, rfl, g2, hs2, hb2⟩; have HS2 := hid hs2; have HG2 := hid g2; have HB2 := hid (bthen HB1.out hb2); have HB12 := hid hb2; clear hs2 hb2 g2))
    all_goals
      go_wp2_with fail
      go_ret
      exact tpnew_px (w1 := w3) (w2 := w4) HS1.out (Nat.le_trans HB0.out.size HG1.out) HS2.out HG2.out (bthen HB0.out HB1.out) HB12.out _ rfl
  · go_enter Try.func82, Try.ntmps82
    go_upto_region 3 with (go_at_call 25; go_must ((with_reducible refine (HT.out _).mono ?_); rintro e w1 ⟨rfl, hb⟩; have HB0 := hid (bthen (bnew (bid w) _) hb); have HG := hid ((hb.block w.heap.size (by rw [size_alloc1]; omega)).trans (heap_alloc_new w _)); clear hb))
    go_region_held3 (fun w' => w'.cell? ⟨w.heap.size, 0, none⟩ = some (.int .i64 s) ∧ w'.cell? ⟨w.heap.size, 1, none⟩ = some (.int .i64 l) ∧ w'.cell? ⟨w.heap.size, 2, none⟩ = some (.int .i64 t) ∧ w'.cell? ⟨w.heap.size, 3, none⟩ = some (.int .i64 c) ∧ w'.cell? ⟨w.heap.size, 4, none⟩ = some (.int .i64 d)) (first | exact HK.out _ _ HG.out (bnew HB2.out _) | exact HK.out _ _ HG.out HB2.out | exact HK.out _ _ HG.out HB1.out | exact HK.out _ _ HG.out (bdrew (bid _)))
      (first
        | (go_at_call 98; (with_reducible refine (RdNew_any _ _).mono ?_); rintro e w3 ⟨b1, rfl, g1, hs1, hb1⟩; have HS1 := hid hs1; have HG1 := hid g1; have HB1 := hid (bthen (bdrew (bid _)) hb1); clear hs1 hb1 g1)
        | (have _g := HB1; go_at_call 99; (with_reducible refine (wNew_any _ _).mono ?_); rintro e w4 ⟨b2, rfl, g2, hs2, hb2⟩; have HS2 := hid hs2; have HG2 := hid g2; have HB2 := hid (bthen HB1.out hb2); have HB12 := hid hb2; clear hs2 hb2 g2))
    all_goals
      go_wp2_with fail
      go_ret
      exact tpnew_px (w1 := w3) (w2 := w4) HS1.out (Nat.le_trans HB0.out.size HG1.out) HS2.out HG2.out (bthen HB0.out HB1.out) HB12.out _ rfl

end Go.Proofs.Ytjfinnjmcnjciaa
