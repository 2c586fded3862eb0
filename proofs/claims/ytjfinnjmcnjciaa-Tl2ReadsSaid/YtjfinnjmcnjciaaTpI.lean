/-
  The program's attempt: Read; Write. The program's attempt: Commit. The program's attempt: places of its own; a look at a stripe; whether something else stands there; what spoils it.
-/
import Derived.Test.YtjfinnjmcnjciaaTpF
namespace Go.Proofs.Ytjfinnjmcnjciaa
open Go.RowKit
attribute [local go_sem] Later.cell Later.frozen

variable {w : World} {ρ : Nat → Nat} {r b : Nat} {x : PT} {l : PL}
theorem lt_dec0 (a : Int) : decide (a < 0) = false ↔ ¬ a < 0 := by simp
set_option maxHeartbeats 2000000 in
theorem tpRead_any (a : Int) (h : PX w ρ r b x l) (hn : x.asked ≤ 100000) : Calls Try.prog 50 #[.pointer (some ⟨b, 0, none⟩), .int .i64 a] w (TpRet w ρ r b (pRead x a)) := by
  have H := hid h
  have HN := hid hn
  have HRD := hid (tpready_any h)
  clear h hn
  cases hr : readyB x with
  | false =>
    have HE := hid (show pRead x a = (2, x) from if_neg (ready_no hr))
    rw [hr] at HRD
    clear hr
    go_enter Try.func50, Try.ntmps50
    go_wp2_with (go_at_call 89; go_must ((with_reducible refine HRD.out.mono ?_); rintro e w1 ⟨rfl, rfl⟩))
    go_ret
    rw [HE.out]
    exact ⟨rfl, ρ, l, Gr.refl _ _, H.out, Wrote.refl _ _⟩
  | true =>
    obtain ⟨hal, hpa⟩ := ready_yes hr
    have HE := hid (show pRead x a = (if hasL x.ws a = true then (1, { x with asked := askN x.ws a x.asked, val := valL x.ws a })
      else if x.m.hash a < 0 ∨ roomL x.mr x.rs (x.m.hash a) = false then abortP { x with asked := askN x.ws a x.asked } 4
      else askP { x with asked := askN x.ws a x.asked, at_ := a, row := x.m.hash a } [1, 2, 3, 4, 14]) from if_pos ⟨hal, hpa⟩)
    rw [hr] at HRD
    clear hr hal hpa
    have c9 := H.out.facts.2.1.2.2.2.2.1
    have f9 := H.out.facts.2.2.2.2.2.2 9
    have HG := hid (wGet_any a l.wb x.mw x.ws x.asked w H.out.ins.wr HN.out)
    go_enter Try.func50, Try.ntmps50
    go_upto_region 4 with (first | (go_at_call 89; go_must ((with_reducible refine HRD.out.mono ?_); rintro e w1 ⟨rfl, rfl⟩)) | (go_at_call 76; go_must ((with_reducible refine HG.out.mono ?_); rintro e w1 ⟨rfl, hs, hw⟩; have HX := hid (H.out.writes (ws' := x.ws) hs hw); have HW := hid (H.out.ownW hw); clear hs hw)))
    clear HG HRD c9 f9
    cases hh : hasL x.ws a with
    | true =>
      rw [hh, if_pos rfl] at HE
      have c16 := HX.out.facts.2.2.1.2.2.2.2.2
      have f16 := HX.out.facts.2.2.2.2.2.2 16
      clear hh
      generalize valL x.ws a = v at *
      go_wp2
      go_ret
      rw [HE.out]
      have hw := (Wrote.refl (fun k => k = b) w1).setCell (p := ⟨b, 16, none⟩) (fun _ => rfl) (.int .i64 v)
      exact ⟨rfl, ρ, l, Gr.refl _ _, HX.out.upd (x' := { x with asked := askN x.ws a x.asked, val := v }) (l' := l) (blk_setCell HX.out.blk 16 _) hw rfl rfl rfl ⟨rfl, rfl⟩, HW.out.trans (HX.out.wr1 hw)⟩
    | false =>
      rw [hh, if_neg (show ¬ (false = true) from Bool.false_ne_true)] at HE
      clear hh
      have c0 := HX.out.facts.1.1
      have c1 := HX.out.facts.1.2.1
      have c2 := HX.out.facts.1.2.2.1
      have c3 := HX.out.facts.1.2.2.2.1
      have c4 := HX.out.facts.1.2.2.2.2
      have f0 := HX.out.facts.2.2.2.2.2.2 0
      have f1 := HX.out.facts.2.2.2.2.2.2 1
      have f2 := HX.out.facts.2.2.2.2.2.2 2
      have f3 := HX.out.facts.2.2.2.2.2.2 3
      have f4 := HX.out.facts.2.2.2.2.2.2 4
      have HH := hid (show Calls Try.prog 90 #[.agg #[.int .i64 x.m.s, .int .i64 x.m.l, .int .i64 x.m.t, .int .i64 x.m.c, .int .i64 x.m.d], .int .i64 a] w1 _ from Hash_any x.m a w1)
      go_upto_region 8 with (go_at_call 90; go_must ((with_reducible refine HH.out.mono ?_); rintro e w2 ⟨rfl, hb⟩; have HX2 := hid (HX.out.below hb); have HW2 := hid (HW.out.trans (Wrote.of_below hb _)); clear hb))
      clear HH c0 c1 c2 c3 c4 f0 f1 f2 f3 f4 HX HW
      have c8 := HX2.out.facts.2.1.2.2.2.1
      have f8 := HX2.out.facts.2.2.2.2.2.2 8
      have HA := hid (tpabort_any 4 HX2.out)
      have HRM := hid (RdRoom_any (x.m.hash a) l.rb x.mr x.rs w2 HX2.out.ins.rd)
      obtain ⟨row, hrow⟩ : ∃ row, row = x.m.hash a := ⟨_, rfl⟩
      rw [← hrow] at HE HRM
      generalize x.m.hash a = row' at *
      subst hrow
      by_cases hneg : row < 0
      · rw [if_pos (.inl hneg)] at HE
        go_wp2_with (go_at_call 87; go_must ((with_reducible refine HA.out.mono ?_); rintro e w3 ⟨rfl, hr⟩; have HR := hid hr; clear hr))
        go_ret
        rw [HE.out]
        exact TpRet.from (w1 := w2) ⟨rfl, HR.out⟩ (Gr.refl _ _) HW2.out
      · cases hrm : roomL x.mr x.rs row with
        | false =>
          rw [if_pos (.inr hrm)] at HE
          rw [hrm] at HRM
          clear hrm HA
          go_upto_region 9 with (go_at_call 78; go_must ((with_reducible refine HRM.out.mono ?_); rintro e w3 ⟨rfl, hb⟩; have HX3 := hid (HX2.out.below hb); have HW3 := hid (HW2.out.trans (Wrote.of_below hb _)); clear hb))
          have HA := hid (tpabort_any 4 HX3.out)
          go_wp2_with (go_at_call 87; go_must ((with_reducible refine HA.out.mono ?_); rintro e w4 ⟨rfl, hr⟩; have HR := hid hr; clear hr))
          go_ret
          rw [HE.out]
          exact TpRet.from (w1 := w3) ⟨rfl, HR.out⟩ (Gr.refl _ _) HW3.out
        | true =>
          rw [if_neg (fun h => h.elim hneg (fun h => by rw [hrm] at h; cases h))] at HE
          rw [hrm] at HRM
          clear hrm HA
          go_upto_region 10 with (go_at_call 78; go_must ((with_reducible refine HRM.out.mono ?_); rintro e w3 ⟨rfl, hb⟩; have HX3 := hid (HX2.out.below hb); have HW3 := hid (HW2.out.trans (Wrote.of_below hb _)); clear hb))
          have c19 := HX3.out.facts.2.2.2.2.1.1
          have f19 := HX3.out.facts.2.2.2.2.2.2 19
          have c20 := HX3.out.facts.2.2.2.2.1.2.1
          have f20 := HX3.out.facts.2.2.2.2.2.2 20
          have hw := ((Wrote.refl (fun k => k = b) w3).setCell (p := ⟨b, 19, none⟩) (fun _ => rfl) (.int .i64 a)).setCell (p := ⟨b, 20, none⟩) (fun _ => rfl) (.int .i64 row)
          have HX4 := hid (HX3.out.upd (x' := { x with asked := askN x.ws a x.asked, at_ := a, row := row }) (l' := l) (blk_setCell (blk_setCell HX3.out.blk 19 (.int .i64 a)) 20 (.int .i64 row)) hw rfl rfl rfl ⟨rfl, rfl⟩)
          have HW4 := hid (HW3.out.trans (HX3.out.wr1 hw))
          clear hw HRM HX2 HW2 c8 f8
          go_upto_region 11 with fail
          refine wp_renamed (fun W => PX W ρ r b { x with asked := askN x.ws a x.asked, at_ := a, row := row } l ∧ Wrote (Own ρ r) w W) ⟨HX4.out, HW4.out⟩ ?_
          clear HX4 HW4 HX3 HW3 c19 f19 c20 f20
          rintro W ⟨hx, hw⟩
          have HW := hid hw
          have HA := hid (askLit [1, 2, 3, 4, 14] #[.int .i64 1, .int .i64 2, .int .i64 3, .int .i64 4, .int .i64 14] rfl 5 rfl (by decide) hx (by intro p hp; simp at hp; rcases hp with rfl | rfl | rfl | rfl | rfl <;> simp [isPart]))
          clear hx hw
          go_wp2_with (go_at_call 85; go_must ((with_reducible refine HA.out.mono ?_); rintro e w5 ⟨rfl, hr⟩; have HR := hid hr; clear hr))
          go_ret
          rw [HE.out]
          exact TpRet.from (w1 := W) ⟨rfl, HR.out⟩ (Gr.refl _ _) HW.out

set_option maxHeartbeats 2000000 in
theorem tpWrite_any (a v : Int) (h : PX w ρ r b x l) : Calls Try.prog 131 #[.pointer (some ⟨b, 0, none⟩), .int .i64 a, .int .i64 v] w (TpRet w ρ r b (pWrite x a v)) := by
  have H := hid h
  have HRD := hid (tpready_any h)
  clear h
  cases hr : readyB x with
  | false =>
    have HE := hid (show pWrite x a v = (2, x) from if_neg (ready_no hr))
    rw [hr] at HRD
    clear hr
    go_enter Try.func131, Try.ntmps131
    go_wp2_with (go_at_call 89; go_must ((with_reducible refine HRD.out.mono ?_); rintro e w1 ⟨rfl, rfl⟩))
    go_ret
    rw [HE.out]
    exact ⟨rfl, ρ, l, Gr.refl _ _, H.out, Wrote.refl _ _⟩
  | true =>
    obtain ⟨hal, hpa⟩ := ready_yes hr
    have HE := hid (show pWrite x a v = (if x.m.hash a < 0 then abortP x 4
      else if wputB x.mw x.ws a = true then (1, { x with ws := wputL x.mw x.ws a v }) else abortP { x with ws := wputL x.mw x.ws a v } 4) from if_pos ⟨hal, hpa⟩)
    rw [hr] at HRD
    clear hr hal hpa
    have c0 := H.out.facts.1.1
    have c1 := H.out.facts.1.2.1
    have c2 := H.out.facts.1.2.2.1
    have c3 := H.out.facts.1.2.2.2.1
    have c4 := H.out.facts.1.2.2.2.2
    have f0 := H.out.facts.2.2.2.2.2.2 0
    have f1 := H.out.facts.2.2.2.2.2.2 1
    have f2 := H.out.facts.2.2.2.2.2.2 2
    have f3 := H.out.facts.2.2.2.2.2.2 3
    have f4 := H.out.facts.2.2.2.2.2.2 4
    have c9 := H.out.facts.2.1.2.2.2.2.1
    have f9 := H.out.facts.2.2.2.2.2.2 9
    have hlt := H.out.lt
    have HH := hid (show Calls Try.prog 90 #[.agg #[.int .i64 x.m.s, .int .i64 x.m.l, .int .i64 x.m.t, .int .i64 x.m.c, .int .i64 x.m.d], .int .i64 a] w (fun e w' => e = .returned (.int .i64 (x.m.hash a)) ∧ Below w.heap.size w w') from Hash_any x.m a w)
    generalize x.m.hash a = row at *
    by_cases hneg : row < 0
    · rw [if_pos hneg] at HE
      go_enter Try.func131, Try.ntmps131
      go_upto_region 4 with (first | (go_at_call 89; go_must ((with_reducible refine HRD.out.mono ?_); rintro e w1 ⟨rfl, rfl⟩)) | (go_at_call 90; go_must ((with_reducible refine HH.out.mono ?_); rintro e w2 ⟨rfl, hb⟩; have HX2 := hid (H.out.below hb); have HW2 := hid (Wrote.of_below hb (Own ρ r)); clear hb)))
      have HA := hid (tpabort_any 4 HX2.out)
      go_wp2_with (go_at_call 87; go_must ((with_reducible refine HA.out.mono ?_); rintro e w3 ⟨rfl, hr⟩; have HR := hid hr; clear hr))
      go_ret
      rw [HE.out]
      exact TpRet.from (w1 := w2) ⟨rfl, HR.out⟩ (Gr.refl _ _) HW2.out
    · rw [if_neg hneg] at HE
      have HP := hid (fun W (hx : PX W ρ r b x l) => wPut_any a v l.wb x.mw x.ws x.asked W hx.ins.wr)
      cases hp : wputB x.mw x.ws a with
      | true =>
        rw [hp, if_pos rfl] at HE
        unfold WPutRet at HP
        rw [hp] at HP
        clear hp
        go_enter Try.func131, Try.ntmps131
        go_wp2_with (first | (go_at_call 89; go_must ((with_reducible refine HRD.out.mono ?_); rintro e w1 ⟨rfl, rfl⟩)) | (go_at_call 90; go_must ((with_reducible refine HH.out.mono ?_); rintro e w2 ⟨rfl, hb⟩; have HX2 := hid (H.out.below hb); have HW2 := hid (Wrote.of_below hb (Own ρ r)); have d9 := HX2.out.facts.2.1.2.2.2.2.1; have g9 := HX2.out.facts.2.2.2.2.2.2 9; clear hb c9 f9)) | (go_at_call 134; go_must ((with_reducible refine (HP.out _ HX2.out).mono ?_); rintro e w3 ⟨rfl, hs, hw⟩; have HX3 := hid (HX2.out.writes (n := x.asked) hs hw); have HW3 := hid (HW2.out.trans (HX2.out.ownW hw)); clear hs hw)))
        go_ret
        rw [HE.out]
        exact ⟨rfl, ρ, l, Gr.refl _ _, HX3.out, HW3.out⟩
      | false =>
        rw [hp, if_neg (show ¬ (false = true) from Bool.false_ne_true)] at HE
        unfold WPutRet at HP
        rw [hp] at HP
        clear hp
        go_enter Try.func131, Try.ntmps131
        go_upto_region 4 with (first | (go_at_call 89; go_must ((with_reducible refine HRD.out.mono ?_); rintro e w1 ⟨rfl, rfl⟩)) | (go_at_call 90; go_must ((with_reducible refine HH.out.mono ?_); rintro e w2 ⟨rfl, hb⟩; have HX2 := hid (H.out.below hb); have HW2 := hid (Wrote.of_below hb (Own ρ r)); have d9 := HX2.out.facts.2.1.2.2.2.2.1; have g9 := HX2.out.facts.2.2.2.2.2.2 9; clear hb c9 f9)) | (go_at_call 134; go_must ((with_reducible refine (HP.out _ HX2.out).mono ?_); rintro e w3 ⟨rfl, hs, hw⟩; have HX3 := hid (HX2.out.writes (n := x.asked) hs hw); have HW3 := hid (HW2.out.trans (HX2.out.ownW hw)); clear hs hw)))
        have HA := hid (tpabort_any 4 HX3.out)
        go_wp2_with (go_at_call 87; go_must ((with_reducible refine HA.out.mono ?_); rintro e w4 ⟨rfl, hr⟩; have HR := hid hr; clear hr))
        go_ret
        rw [HE.out]
        exact TpRet.from (w1 := w3) ⟨rfl, HR.out⟩ (Gr.refl _ _) HW3.out

end Go.Proofs.Ytjfinnjmcnjciaa

namespace Go.Proofs.Ytjfinnjmcnjciaa
open Go.RowKit
attribute [local go_sem] Later.cell Later.frozen

variable {w : World} {ρ : Nat → Nat} {r b : Nat} {x : PT} {l : PL}
/-- Its stripes are laid down. -/
theorem PX.rowsSet (h : PX w ρ r b x l) {w2 : World} {v : Value} {rows' : List Int} (hb : Below w.heap.size w w2) (hv : NL w2 w.heap.size v rows') (h16 : rows'.length ≤ 16) :
    ∃ ρ', Gr ρ ρ' w ∧ PX (w2.setCell ⟨b, 24, none⟩ v) ρ' r b { x with rows := rows' } { l with va := v } ∧ Wrote (Own ρ r) w (w2.setCell ⟨b, 24, none⟩ v) := by
  have hg := newR_gr ρ w (r + 5)
  have h2 : PX w2 (newR ρ w.heap.size (r + 5)) r b x l := (h.gr hg).below hb
  have hlt := h.lt
  have hw3 := (Wrote.refl (fun k => k = b) w2).setCell (p := ⟨b, 24, none⟩) (fun _ => rfl) v
  have hb1 := h2.ins.b1
  have i := h2.ins.kept hw3 fun k h1 h2 e => by subst e; omega
  refine ⟨newR ρ w.heap.size (r + 5), hg, ⟨blk_setCell h2.blk 24 v, ⟨i.rd, i.wr, i.wt, ?_, i.old, i.b1, i.b2, i.b3, i.b4, fun k hk => newR_new (hv.old hk).1, i.b6, i.wtl, i.oldl, h16⟩, (h2.parts.kept hw3 fun k hk e => by subst e; omega).same rfl rfl rfl⟩, (Wrote.of_below hb _).trans (hw3.mono fun k _ e => by subst e; exact h.own)⟩
  exact (hv.kept hw3 fun k hk e => by subst e; have := (hv.old hk).1; omega).mono (Nat.zero_le _)
structure CmI (w1 : World) (ws : List Wd) (W : World) (v : Value) (j : Nat) : Prop where
  list : NL W w1.heap.size v ((ws.take j).map fun p => p.1)
  below : Below w1.heap.size w1 W
theorem take_fst {ws : List Wd} {j : Nat} {p : Wd} (h : ws[j]? = some p) : ((ws.take j).map fun p => p.1) ++ [p.1] = (ws.take (j + 1)).map fun p => p.1 := by
  rw [take_more h, List.map_append]; rfl
theorem startF_one (c : Int) : startF 1 c = startB c := by
  unfold startF startB
  rw [if_neg (by decide)]
  by_cases h1 : c = 1
  · rw [if_pos ⟨rfl, h1⟩, if_pos h1]
  · rw [if_neg (fun h => h1 h.2), if_neg h1]
    by_cases h2 : c = 2
    · rw [if_pos ⟨rfl, h2⟩, if_pos h2]
    · rw [if_neg (fun h => h2 h.2), if_neg h2]

set_option maxHeartbeats 4000000 in
theorem tpCommit_any (h : PX w ρ r b x l) : Calls Try.prog 53 #[.pointer (some ⟨b, 0, none⟩)] w (TpRet w ρ r b (pCommit x)) := by
  have H := hid h
  have HRD := hid (tpready_any h)
  clear h
  cases hr : readyB x with
  | false =>
    have HE := hid (show pCommit x = (2, x) from if_neg (ready_no hr))
    rw [hr] at HRD
    clear hr
    go_enter Try.func53, Try.ntmps53
    go_wp2_with (go_at_call 89; go_must ((with_reducible refine HRD.out.mono ?_); rintro e w1 ⟨rfl, rfl⟩))
    go_ret
    rw [HE.out]
    exact ⟨rfl, ρ, l, Gr.refl _ _, H.out, Wrote.refl _ _⟩
  | true =>
    obtain ⟨hal, hpa⟩ := ready_yes hr
    have HE := hid (show pCommit x = (if x.ws = [] then askP x [6, 4, 16, 13, 17]
      else askP { x with rows := rowsL x.m (x.ws.map fun p => p.1) 16, bump := startB x.ck } [6, 7, 8, 9, 4, 16, 10, 11, 13, 17]) from if_pos ⟨hal, hpa⟩)
    rw [hr] at HRD
    clear hr hal hpa
    have c9 := H.out.facts.2.1.2.2.2.2.1
    have f9 := H.out.facts.2.2.2.2.2.2 9
    have HLI := hid (List_any l.wb x.mw x.ws x.asked w H.out.ins.wr)
    have HLEN := hid (show x.ws.length ≤ 32 from Nat.le_trans H.out.ins.wr.len H.out.ins.wr.room)
    go_enter Try.func53, Try.ntmps53
    go_wp2_with (first | (go_at_call 89; go_must ((with_reducible refine HRD.out.mono ?_); rintro e w1 ⟨rfl, rfl⟩)) | (go_at_call 65; go_must ((with_reducible refine HLI.out.mono ?_); rintro e w1 ⟨v1, rfl, hl1, hb1⟩; obtain ⟨a1, n1, rfl, hrow1⟩ := hl1.form; have HROW := hid hrow1; have HB1 := hid hb1; clear hl1 hb1 hrow1)))
    have HX1 := hid (H.out.below HB1.out)
    have HW1 := hid (Wrote.of_below HB1.out (Own ρ r))
    clear HLI HRD c9 f9
    obtain ⟨n, hn⟩ : ∃ n, n = x.ws.length := ⟨_, rfl⟩
    have HN := hid hn
    rw [← hn]
    clear hn
    go_loopw [3, 15] (fun v i W => ∃ j : Nat, j ≤ n ∧ i = .int .i64 j ∧ CmI w1 x.ws W v j) (fun _ i _ => n - (intOf i).toNat)
    case atStart => exact ⟨0, Nat.zero_le _, rfl, NL.nil _ _, bid _⟩
    case round =>
      obtain ⟨j, hj, rfl, hi⟩ := hrel
      have HI := hid hi
      clear hi
      have hn32 : n ≤ 32 := by rw [HN.out]; exact HLEN.out
      by_cases hlt : j < n
      · obtain ⟨p, hp⟩ := word_at (ws := x.ws) (k := j) (by rw [← HN.out]; exact hlt)
        obtain ⟨b', off, hbo, hbl, hcs⟩ := (HROW.out.below HI.out.below).at (by rw [← HN.out]; omega)
        obtain ⟨cq0, cq1⟩ := hcs j p hp
        clear hcs
        have HTF := hid (take_fst hp)
        have HT := hid (show ((x.ws.take j).map fun p => p.1).length + 1 ≤ 1000 by rw [List.length_map, List.length_take]; have := HLEN.out; omega)
        clear hp
        have n1 : (0 : Int) ≤ (j : Int) := by omega
        have n2 : (j : Int) < (n : Int) := by omega
        subst hbo
        obtain ⟨p1, p2⟩ := p
        have HLW := hid (HI.out.list.below (bnew (bid _) (.cells #[.int .i64 p1, .int .i64 p2] 51)))
        go_wp2_with (at_builtin; go_must (refine wpList_append_nl1 rfl (.tmp 19) (.tmp 22) rfl rfl HLW.out (size_alloc1 _ _) (n := p1) rfl HT.out (Nat.le_trans HI.out.below.size (bnew (bid _) _).size) ?_; intro v' w' hl' hw'; have HL' := hid hl'; have HW' := hid (HI.out.below.trans ((bnew (bid _) (.cells #[.int .i64 p1, .int .i64 p2] 51)).mono HI.out.below.size |>.trans hw')); clear hl' hw'))
        go_roundw
        case rel => exact ⟨j + 1, by omega, by go_num, by rw [← HTF.out]; exact HL'.out, HW'.out⟩
        case measure => simp [intOf]; omega
      · obtain rfl : j = n := by omega
        have hlist := HI.out.list
        have HB2 := hid HI.out.below
        rw [HN.out, List.take_length] at hlist
        have HX2 := hid (HX1.out.below HB2.out)
        have HW2 := hid (HW1.out.trans (Wrote.of_below HB2.out _))
        obtain ⟨pa, pc, rfl, hrow, _⟩ := hlist.row
        have HRW := hid hrow
        rw [List.length_map] at *
        clear HX1 HW1 HB1 HI hlist hrow HROW
        by_cases hws : x.ws = []
        · have hz : x.ws.length = 0 := by rw [hws]; rfl
          rw [if_pos hws] at HE
          have HA := hid (askLit [6, 4, 16, 13, 17] #[.int .i64 6, .int .i64 4, .int .i64 16, .int .i64 13, .int .i64 17] rfl 5 rfl (by decide) HX2.out (by intro p hp; simp at hp; rcases hp with rfl | rfl | rfl | rfl | rfl <;> simp [isPart]))
          have hz' : j = 0 := HN.out.trans hz
          rw [hz]
          clear hws hz
          go_wp2_with (go_at_call 85; go_must ((with_reducible refine HA.out.mono ?_); rintro e w5 ⟨rfl, hr⟩; have HR := hid hr; clear hr))
          go_ret
          rw [HE.out]
          exact TpRet.from (w1 := wr) ⟨rfl, HR.out⟩ (Gr.refl _ _) HW2.out
        · have hz : (x.ws.length : Int) ≠ 0 := by have := List.length_pos_iff.2 hws; omega
          rw [if_neg hws] at HE
          have c0 := HX2.out.facts.1.1
          have c1 := HX2.out.facts.1.2.1
          have c2 := HX2.out.facts.1.2.2.1
          have c3 := HX2.out.facts.1.2.2.2.1
          have c4 := HX2.out.facts.1.2.2.2.2
          have f0 := HX2.out.facts.2.2.2.2.2.2 0
          have f1 := HX2.out.facts.2.2.2.2.2.2 1
          have f2 := HX2.out.facts.2.2.2.2.2.2 2
          have f3 := HX2.out.facts.2.2.2.2.2.2 3
          have f4 := HX2.out.facts.2.2.2.2.2.2 4
          have HRS := hid (show Calls Try.prog 91 #[.agg #[.int .i64 x.m.s, .int .i64 x.m.l, .int .i64 x.m.t, .int .i64 x.m.c, .int .i64 x.m.d], .slice pa x.ws.length pc] wr (RowsRet wr (rowsL x.m (x.ws.map fun p => p.1) 16)) from Rows_any x.m pa x.ws.length pc (x.ws.map fun p => p.1) wr HRW.out (by have := HLEN.out; omega))
          clear hws
          have hzb : ((x.ws.length : Int) == 0) = false := by simpa using hz
          have HL16 := hid (rowsL_len x.m (x.ws.map fun p => p.1) 16)
          obtain ⟨RW, hRW⟩ : ∃ RW, RW = rowsL x.m (x.ws.map fun p => p.1) 16 := ⟨_, rfl⟩
          rw [← hRW] at HE HRS HL16
          clear hRW
          go_upto_region 12 with (go_at_call 91; go_must ((with_reducible refine HRS.out.mono ?_); rintro e w4 ⟨v4, rfl, hl4, hb4⟩; obtain ⟨qa, qc, rfl, _⟩ := hl4.form; have HX4 := hid (HX2.out.rowsSet hb4 hl4 HL16.out); have HC4 := hid (HX2.out.below hb4); have d24 := HC4.out.facts.2.2.2.2.1.2.2.2.2.2.1; have g24 := HC4.out.facts.2.2.2.2.2.2 24; clear hl4 hb4))
          obtain ⟨ρ4, hg4, hx4, hw4⟩ := HX4.out
          have HG4 := hid hg4
          have HXX := hid hx4
          have HW4 := hid (HW2.out.trans hw4)
          refine wp_renamed (fun W => PX W ρ4 r b { x with rows := RW } { l with va := .slice qa RW.length qc } ∧ Wrote (Own ρ r) w W) ⟨HXX.out, HW4.out⟩ ?_
          have HG := hid (fun k (hk : k < w.heap.size) => HG4.out k (Nat.lt_of_lt_of_le hk HW2.out.size))
          clear HX4 HC4 d24 g24 hg4 hx4 hw4 HXX HW4 HX2 HW2 HRS HRW HB2 HG4 c0 c1 c2 c3 c4 f0 f1 f2 f3 f4
          rintro W5 ⟨hx, hw⟩
          have HX := hid hx
          have HW := hid hw
          have c6 := hx.facts.2.1.2.1
          have f6 := hx.facts.2.2.2.2.2.2 6
          have HS := hid (Start_any 1 x.ck W5)
          rw [startF_one] at HS
          obtain ⟨⟨k0, s0, x0, p0⟩, hbd⟩ : ∃ bd, bd = startB x.ck := ⟨_, rfl⟩
          rw [← hbd] at HS HE
          clear hx hw hbd
          go_upto_region 13 with (go_at_call 92; go_must ((with_reducible refine HS.out.mono ?_); rintro e w6 ⟨rfl, hb6⟩; have HX6 := hid (HX.out.below hb6); have HW6 := hid (HW.out.trans (Wrote.of_below hb6 _)); have d27 := HX6.out.facts.2.2.2.2.2.1.1; have d28 := HX6.out.facts.2.2.2.2.2.1.2.1; have d29 := HX6.out.facts.2.2.2.2.2.1.2.2.1; have d30 := HX6.out.facts.2.2.2.2.2.1.2.2.2; have g27 := HX6.out.facts.2.2.2.2.2.2 27; have g28 := HX6.out.facts.2.2.2.2.2.2 28; have g29 := HX6.out.facts.2.2.2.2.2.2 29; have g30 := HX6.out.facts.2.2.2.2.2.2 30; clear hb6))
          have hw7 := ((((Wrote.refl (fun k => k = b) w6).setCell (p := ⟨b, 27, none⟩) (fun _ => rfl) (.int .i64 k0)).setCell (p := ⟨b, 28, none⟩) (fun _ => rfl) (.int .i64 s0)).setCell (p := ⟨b, 29, none⟩) (fun _ => rfl) (.int .i64 x0)).setCell (p := ⟨b, 30, none⟩) (fun _ => rfl) (.int .i64 p0)
          have HX7 := hid (HX6.out.upd (x' := { x with rows := RW, bump := ⟨k0, s0, x0, p0⟩ }) (l' := { l with va := .slice qa RW.length qc }) (blk_setCell (blk_setCell (blk_setCell (blk_setCell HX6.out.blk 27 (.int .i64 k0)) 28 (.int .i64 s0)) 29 (.int .i64 x0)) 30 (.int .i64 p0)) hw7 rfl rfl rfl ⟨rfl, rfl⟩)
          have HW7 := hid (HW6.out.then hw7 fun k hk e => by subst e; unfold Own; rw [← HG.out _ hk]; exact HX6.out.own)
          refine wp_renamed (fun W => PX W ρ4 r b { x with rows := RW, bump := ⟨k0, s0, x0, p0⟩ } { l with va := .slice qa RW.length qc } ∧ Wrote (Own ρ r) w W) ⟨HX7.out, HW7.out⟩ ?_
          clear HX7 HW7 HX6 HW6 HX HW HS c6 f6 d27 d28 d29 d30 g27 g28 g29 g30 hw7
          rintro W8 ⟨hx, hw⟩
          have HW := hid hw
          have HA := hid (askLit [6, 7, 8, 9, 4, 16, 10, 11, 13, 17] #[.int .i64 6, .int .i64 7, .int .i64 8, .int .i64 9, .int .i64 4, .int .i64 16, .int .i64 10, .int .i64 11, .int .i64 13, .int .i64 17] rfl 10 rfl (by decide) hx (by intro p hp; simp at hp; rcases hp with rfl | rfl | rfl | rfl | rfl | rfl | rfl | rfl | rfl | rfl <;> simp [isPart]))
          clear hx hw
          go_wp2_with (go_at_call 85; go_must ((with_reducible refine HA.out.mono ?_); rintro e w9 ⟨rfl, hr⟩; have HR := hid hr; clear hr))
          go_ret
          rw [HE.out]
          exact TpRet.from (w1 := W8) ⟨rfl, HR.out⟩ HG.out HW.out

end Go.Proofs.Ytjfinnjmcnjciaa

namespace Go.Proofs.Ytjfinnjmcnjciaa
open Go.RowKit
attribute [local go_sem] Later.cell Later.frozen

/-- An attempt and the memory. -/
structure PXM (w : World) (ρ : Nat → Nat) (r b : Nat) (x : PT) (l : PL) (B mb : Nat) (vw : Value) (s : MS) : Prop where
  px : PX w ρ r b x l
  mem : Mem w B mb vw s
  m0 : ∀ k, MemS mb vw k → ρ k = 0
def OwnM (ρ : Nat → Nat) (r mb : Nat) (vw : Value) : Nat → Prop := fun k => Own ρ r k ∨ MemS mb vw k
variable {w w' : World} {ρ : Nat → Nat} {r b : Nat} {x : PT} {l : PL} {B mb : Nat} {vw : Value} {s s' : MS}
theorem PXM.below (h : PXM w ρ r b x l B mb vw s) (hb : Below w.heap.size w w') : PXM w' ρ r b x l B mb vw s := ⟨h.px.below hb, h.mem.kept (Wrote.of_below hb (fun _ => False)) (fun _ _ h => h), h.m0⟩
theorem PXM.memd (h : PXM w ρ r b x l B mb vw s) (hm : Mem w' B mb vw s') (hw : Wrote (MemS mb vw) w w') : PXM w' ρ r b x l B mb vw s' :=
  ⟨h.px.kept hw fun k ho hk => by have := h.m0 k hk; have := ho.1; omega, hm, h.m0⟩
/-- Its own blocks turned. -/
theorem PXM.turn (h : PXM w ρ r b x l B mb vw s) {ρ' : Nat → Nat} {y : PT} {m : PL} (hp : PX w' ρ' r b y m) (hg : Gr ρ ρ' w) (hw : Wrote (Own ρ r) w w') : PXM w' ρ' r b y m B mb vw s :=
  ⟨hp, h.mem.kept hw fun k hk ho => by have := h.m0 k hk; have := ho.1; omega, fun k hk => by
    have hlt : k < w.heap.size := by
      rcases hk with rfl | hk
      · exact h.mem.lt
      · exact (h.mem.row.lt k hk).2
    rw [hg k hlt]; exact h.m0 k hk⟩
/-- What an access to the memory comes to. -/
def MmRet (w : World) (B mb : Nat) (vw v : Value) (s' : MS) (e : Ending) (w' : World) : Prop := e = .returned v ∧ Mem w' B mb vw s' ∧ Wrote (MemS mb vw) w w'
theorem MmRet.from {w1 : World} {v : Value} {e : Ending} (h : MmRet w1 B mb vw v s' e w') (hb : Below w.heap.size w w1) : MmRet w B mb vw v s' e w' := ⟨h.1, h.2.1, (Wrote.of_below hb _).trans h.2.2⟩

set_option maxHeartbeats 1000000 in
theorem stripeAt_any (k : Int) (h : PX w ρ r b x l) : Calls Try.prog 123 #[.pointer (some ⟨b, 0, none⟩), .int .i64 k] w fun e w' => e = .returned (.int .i64 (x.stripeP k)) ∧ Below w.heap.size w w' := by
  obtain ⟨⟨c0, c1, c2, c3, c4⟩, _, _, _, _, _, cf⟩ := h.facts
  have f0 := cf 0
  have f1 := cf 1
  have f2 := cf 2
  have f3 := cf 3
  have f4 := cf 4
  clear cf h
  have HH := hid (show Calls Try.prog 29 #[.agg #[.int .i64 x.m.s, .int .i64 x.m.l, .int .i64 x.m.t, .int .i64 x.m.c, .int .i64 x.m.d], .int .i64 k] w (fun e w' => e = .returned (.int .i64 (x.stripeP k)) ∧ Below w.heap.size w w') from Stripe_any x.m k w)
  go_enter Try.func123, Try.ntmps123
  go_wp2_with (go_at_call 29; go_must ((with_reducible refine HH.out.mono ?_); rintro e w1 ⟨rfl, hb⟩; have HB := hid hb; clear hb))
  go_ret
  exact ⟨rfl, HB.out⟩
set_option maxHeartbeats 1000000 in
theorem tpphase_any (h : PX w ρ r b x l) : Calls Try.prog 127 #[.pointer (some ⟨b, 0, none⟩)] w fun e w' => e = .returned (.int .i64 x.phaseP) ∧ Below w.heap.size w w' := by
  have hlt := h.lt
  obtain ⟨⟨c0, c1, c2, c3, c4⟩, ⟨c5, _⟩, _, _, _, _, cf⟩ := h.facts
  have f0 := cf 0
  have f1 := cf 1
  have f2 := cf 2
  have f3 := cf 3
  have f4 := cf 4
  have f5 := cf 5
  clear cf h
  have HH := hid (fun (y : Later w) => show Calls Try.prog 25 #[.agg #[.int .i64 x.m.s, .int .i64 x.m.l, .int .i64 x.m.t, .int .i64 x.m.c, .int .i64 x.m.d], .int .i64 x.th, .int .i64 0] y.v (fun e w' => e = .returned (.int .i64 x.phaseP) ∧ Below y.v.heap.size y.v w') from Thread_any x.m x.th 0 y.v)
  go_enter Try.func127, Try.ntmps127
  go_wp2_with fail
  refine wp_region_later (by kernel_rfl) (by kernel_rfl) ?_
  repeat (go_big_quiet_step ((go_at_call 25; with_reducible exact later_call (HH.out _))))
  refine wpQuiet_nil ?_
  rintro _ ⟨y, rfl⟩
  go_wp2_with fail
  go_ret
  exact ⟨rfl, y.below⟩
set_option maxHeartbeats 1000000 in
theorem look_any' (k : Int) (h : PXM w ρ r b x l B mb vw s) : Calls Try.prog 120 #[.pointer (some ⟨b, 0, none⟩), .pointer (some ⟨mb, 0, none⟩), .int .i64 k] w (MmRet w B mb vw (.int .i64 (s.vAt (x.stripeP k))) (s.loaded (x.stripeP k))) := by
  have HS := hid (stripeAt_any k h.px)
  have H := hid h
  have HL := hid (fun W (hm : Mem W B mb vw s) => Load_at (x.stripeP k) W B mb vw s hm)
  clear h
  go_enter Try.func120, Try.ntmps120
  go_wp2_with (first | (go_at_call 123; go_must ((with_reducible refine HS.out.mono ?_); rintro e w1 ⟨rfl, hb⟩; have HX := hid (H.out.below hb); have HB := hid hb; clear hb)) | (go_at_call 107; go_must ((with_reducible refine (HL.out _ HX.out.mem).mono ?_); rintro e w2 ⟨rfl, hm, hw⟩; have HM := hid hm; have HW := hid hw; clear hm hw)))
  go_ret
  exact MmRet.from ⟨rfl, HM.out, HW.out⟩ HB.out
set_option maxHeartbeats 1000000 in
theorem unlike_any (p v c : Int) (h : Mem w B mb vw s) : Calls Try.prog 122 #[.pointer (some ⟨mb, 0, none⟩), .int .i64 p, .int .i64 v, .int .i64 c] w (MmRet w B mb vw (.int .i64 (if s.vAt p ≠ v then c else 0)) (s.loaded p)) := by
  have HL := hid (Load_at p w B mb vw s h)
  clear h
  generalize s.vAt p = z at *
  by_cases hz : z = v
  · have hzb : (z != v) = false := by simpa using hz
    have HE := hid (show (if z ≠ v then c else 0) = 0 from if_neg (fun h => h hz))
    rw [HE.out]
    go_enter Try.func122, Try.ntmps122
    go_wp2_with (go_at_call 107; go_must ((with_reducible refine HL.out.mono ?_); rintro e w2 ⟨rfl, hm, hw⟩; have HM := hid hm; have HW := hid hw; clear hm hw))
    go_ret
    exact ⟨rfl, HM.out, HW.out⟩
  · have hzb : (z != v) = true := by simpa using hz
    have HE := hid (show (if z ≠ v then c else 0) = c from if_pos hz)
    rw [HE.out]
    go_enter Try.func122, Try.ntmps122
    go_wp2_with (go_at_call 107; go_must ((with_reducible refine HL.out.mono ?_); rintro e w2 ⟨rfl, hm, hw⟩; have HM := hid hm; have HW := hid hw; clear hm hw))
    go_ret
    exact ⟨rfl, HM.out, HW.out⟩
set_option maxHeartbeats 1000000 in
theorem spoilt_any (v : Int) (h : PX w ρ r b x l) : Calls Try.prog 126 #[.pointer (some ⟨b, 0, none⟩), .int .i64 v] w fun e w' => e = .returned (.int .i64 (spoiltP x v)) ∧ Below w.heap.size w w' := by
  have hlt := h.lt
  have c5 := h.facts.2.1.1
  have f5 := h.facts.2.2.2.2.2.2 5
  have c14 := h.facts.2.2.1.2.2.2.1
  have f14 := h.facts.2.2.2.2.2.2 14
  have HH := hid (fun W => Holder_any v W)
  have HV := hid (fun W => Version_any v W)
  clear h
  by_cases h1 : holF v = -1
  · have h1b : (holF v != -1) = false := by simpa using h1
    have HE := hid (show spoiltP x v = if x.stamp < verF v then 2 else 0 from if_neg (fun h => h.1 h1))
    by_cases h3 : x.stamp < verF v
    · have HE2 := hid (HE.out.trans (if_pos h3))
      generalize holF v = hv at *
      generalize verF v = vv at *
      go_enter Try.func126, Try.ntmps126
      go_wp2_with (go_at_call 142; go_must ((with_reducible refine (HH.out _).mono ?_); rintro e w2 ⟨rfl, rfl⟩))
      refine wp_region_later (by kernel_rfl) (by kernel_rfl) ?_
      repeat (go_big_quiet_step ((go_at_call 143; with_reducible exact later_same (HV.out _))))
      refine wpQuiet_nil ?_
      rintro _ ⟨y, rfl⟩
      go_wp2_with fail
      go_ret
      exact ⟨by rw [HE2.out]; rfl, y.below⟩
    · have HE2 := hid (HE.out.trans (if_neg h3))
      generalize holF v = hv at *
      generalize verF v = vv at *
      go_enter Try.func126, Try.ntmps126
      go_wp2_with (go_at_call 142; go_must ((with_reducible refine (HH.out _).mono ?_); rintro e w2 ⟨rfl, rfl⟩))
      refine wp_region_later (by kernel_rfl) (by kernel_rfl) ?_
      repeat (go_big_quiet_step ((go_at_call 143; with_reducible exact later_same (HV.out _))))
      refine wpQuiet_nil ?_
      rintro _ ⟨y, rfl⟩
      go_wp2_with fail
      go_ret
      exact ⟨by rw [HE2.out]; rfl, y.below⟩
  · have h1b : (holF v != -1) = true := by simpa using h1
    by_cases h2 : holF v = x.th
    · have h2b : (holF v != x.th) = false := by simpa using h2
      have HE := hid (show spoiltP x v = if x.stamp < verF v then 2 else 0 from if_neg (fun h => h.2 h2))
      by_cases h3 : x.stamp < verF v
      · have HE2 := hid (HE.out.trans (if_pos h3))
        generalize holF v = hv at *
        generalize verF v = vv at *
        go_enter Try.func126, Try.ntmps126
        go_wp2_with (go_at_call 142; go_must ((with_reducible refine (HH.out _).mono ?_); rintro e w2 ⟨rfl, rfl⟩))
        refine wp_region_later (by kernel_rfl) (by kernel_rfl) ?_
        repeat (go_big_quiet_step ((go_at_call 143; with_reducible exact later_same (HV.out _))))
        refine wpQuiet_nil ?_
        rintro _ ⟨y, rfl⟩
        go_wp2_with fail
        go_ret
        exact ⟨by rw [HE2.out]; rfl, y.below⟩
      · have HE2 := hid (HE.out.trans (if_neg h3))
        generalize holF v = hv at *
        generalize verF v = vv at *
        go_enter Try.func126, Try.ntmps126
        go_wp2_with (go_at_call 142; go_must ((with_reducible refine (HH.out _).mono ?_); rintro e w2 ⟨rfl, rfl⟩))
        refine wp_region_later (by kernel_rfl) (by kernel_rfl) ?_
        repeat (go_big_quiet_step ((go_at_call 143; with_reducible exact later_same (HV.out _))))
        refine wpQuiet_nil ?_
        rintro _ ⟨y, rfl⟩
        go_wp2_with fail
        go_ret
        exact ⟨by rw [HE2.out]; rfl, y.below⟩
    · have h2b : (holF v != x.th) = true := by simpa using h2
      have HE := hid (show spoiltP x v = 1 from if_pos ⟨h1, h2⟩)
      generalize holF v = hv at *
      go_enter Try.func126, Try.ntmps126
      go_wp2_with (go_at_call 142; go_must ((with_reducible refine (HH.out _).mono ?_); rintro e w2 ⟨rfl, rfl⟩))
      go_ret
      exact ⟨by rw [HE.out]; rfl, bid _⟩

end Go.Proofs.Ytjfinnjmcnjciaa
