/-
  The program's attempt with values: Read; Write; Commit.
-/
import Derived.Test.YtjfinnjmcnjciaaNpD
namespace Go.Proofs.Ytjfinnjmcnjciaa
open Go.RowKit
attribute [local go_sem] Later.cell Later.frozen

variable {w : World} {ρ : Nat → Nat} {r b : Nat} {x : PT} {l : PL}
theorem lt_decI (a c : Int) : (decide (0 ≤ a) && decide (a < c)) = true ↔ (0 ≤ a ∧ a < c) := by simp
set_option maxHeartbeats 1000000 in
theorem has_any (a : Int) (h : PX w ρ r b x l) : Calls Try.prog 77 #[.pointer (some ⟨b, 0, none⟩), .int .i64 a] w fun e w' => e = .returned (.bool (hasP x a)) ∧ Below w.heap.size w w' := by
  by_cases h0 : 0 ≤ a
  · have HL := hid (show hasP x a = decide (a < x.m.size) from by unfold hasP; rw [decide_eq_true h0, Bool.true_and])
    have HZ := hid (show Calls Try.prog 70 #[.agg #[.int .i64 x.m.s, .int .i64 x.m.l, .int .i64 x.m.t, .int .i64 x.m.c, .int .i64 x.m.d]] w (fun e w' => e = .returned (.int .i64 x.m.size) ∧ Below w.heap.size w w') from Size_any x.m w)
    have hlt := h.lt
    have c0 : w.cell? ⟨b, 0, none⟩ = some (.int .i64 x.m.s) := h.c 0
    have f0 := h.f 0
    have c1 : w.cell? ⟨b, 1, none⟩ = some (.int .i64 x.m.l) := h.c 1
    have f1 := h.f 1
    have c2 : w.cell? ⟨b, 2, none⟩ = some (.int .i64 x.m.t) := h.c 2
    have f2 := h.f 2
    have c3 : w.cell? ⟨b, 3, none⟩ = some (.int .i64 x.m.c) := h.c 3
    have f3 := h.f 3
    have c4 : w.cell? ⟨b, 4, none⟩ = some (.int .i64 x.m.d) := h.c 4
    have f4 := h.f 4
    rw [HL.out]
    clear h HL
    generalize x.m.size = z at *
    go_enter Try.func77, Try.ntmps77
    go_wp2_with (go_at_call 70; go_must ((with_reducible refine HZ.out.mono ?_); rintro e w1 ⟨rfl, hb⟩; have HB := hid hb; clear hb))
    go_ret
    exact ⟨rfl, HB.out⟩
  · have HL := hid (show hasP x a = false from by unfold hasP; rw [decide_eq_false h0, Bool.false_and])
    rw [HL.out]
    clear h HL
    go_enter Try.func77, Try.ntmps77
    go_wp2_with fail
    go_ret
    exact ⟨rfl, bid _⟩

set_option maxHeartbeats 2000000 in
theorem tpRead_any (a : Int) (h : PX w ρ r b x l) (hn : x.asked ≤ 100000) : Calls Try.prog 31 #[.pointer (some ⟨b, 0, none⟩), .int .i64 a] w (TpRet w ρ r b (pRead x a)) := by
  have H := hid h
  have HN := hid hn
  have HRD := hid (tpready_any h)
  clear h hn
  cases hr : readyB x with
  | false =>
    have HE := hid (show pRead x a = (2, x) from if_neg (ready_no hr))
    rw [hr] at HRD
    clear hr
    go_enter Try.func31, Try.ntmps31
    go_wp2_with (go_at_call 75; go_must ((with_reducible refine HRD.out.mono ?_); rintro e w1 ⟨rfl, rfl⟩))
    go_ret
    rw [HE.out]
    exact ⟨rfl, ρ, l, Gr.refl _ _, H.out, Wrote.refl _ _⟩
  | true =>
    obtain ⟨hal, hpa⟩ := ready_yes hr
    have HE := hid (show pRead x a = (if hasL x.ws a = true then (1, { x with asked := askN x.ws a x.asked, val := valL x.ws a })
      else if hasP x a = false ∨ roomL x.mr x.rs a = false then abortP { x with asked := askN x.ws a x.asked } 4
      else askP { x with asked := askN x.ws a x.asked, at_ := a } [4, 5, 3, 12]) from if_pos ⟨hal, hpa⟩)
    rw [hr] at HRD
    clear hr hal hpa
    have c9 : w.cell? ⟨b, 8, none⟩ = some (.pointer (some ⟨l.wb, 0, none⟩)) := H.out.c 8
    have f9 := H.out.f 8
    have HG := hid (wGet_any a l.wb x.mw x.ws x.asked w H.out.ins.wr HN.out)
    go_enter Try.func31, Try.ntmps31
    go_upto_region 4 with (first | (go_at_call 75; go_must ((with_reducible refine HRD.out.mono ?_); rintro e w1 ⟨rfl, rfl⟩)) | (go_at_call 76; go_must ((with_reducible refine HG.out.mono ?_); rintro e w1 ⟨rfl, hs, hw⟩; have HX := hid (H.out.writes (ws' := x.ws) hs hw); have HW := hid (H.out.ownW hw); clear hs hw)))
    clear HG HRD c9 f9
    cases hh : hasL x.ws a with
    | true =>
      rw [hh, if_pos rfl] at HE
      have c16 : w1.cell? ⟨b, 15, none⟩ = some (.int .i64 x.val) := HX.out.c 15
      have f16 := HX.out.f 15
      clear hh
      generalize valL x.ws a = v at *
      go_wp2
      go_ret
      rw [HE.out]
      have hw := (Wrote.refl (fun k => k = b) w1).setCell (p := ⟨b, 15, none⟩) (fun _ => rfl) (.int .i64 v)
      exact ⟨rfl, ρ, l, Gr.refl _ _, HX.out.upd (x' := { x with asked := askN x.ws a x.asked, val := v }) (l' := l) (blk_setCell HX.out.blk 15 _) hw rfl rfl rfl ⟨rfl, rfl⟩, HW.out.trans (HX.out.wr1 hw)⟩
    | false =>
      rw [hh, if_neg (show ¬ (false = true) from Bool.false_ne_true)] at HE
      clear hh
      have HH := hid (has_any a HX.out)
      cases hh : hasP x a with
      | false =>
        rw [if_pos (.inl hh)] at HE
        have HH2 : Hid (Calls Try.prog 77 #[.pointer (some ⟨b, 0, none⟩), .int .i64 a] w1 fun e w' => e = .returned (.bool false) ∧ Below w1.heap.size w1 w') := by rw [← hh]; exact HH
        clear hh HH
        go_upto_region 8 with (go_at_call 77; go_must ((with_reducible refine HH2.out.mono ?_); rintro e w2 ⟨rfl, hb⟩; have HX2 := hid (HX.out.below hb); have HW2 := hid (HW.out.trans (Wrote.of_below hb _)); clear hb))
        have HA := hid (tpabort_any 4 HX2.out)
        go_wp2_with (go_at_call 68; go_must ((with_reducible refine HA.out.mono ?_); rintro e w3 ⟨rfl, hr⟩; have HR := hid hr; clear hr))
        go_ret
        rw [HE.out]
        exact TpRet.from (w1 := w2) ⟨rfl, HR.out⟩ (Gr.refl _ _) HW2.out
      | true =>
        have HH2 : Hid (Calls Try.prog 77 #[.pointer (some ⟨b, 0, none⟩), .int .i64 a] w1 fun e w' => e = .returned (.bool true) ∧ Below w1.heap.size w1 w') := by rw [← hh]; exact HH
        have HHT := hid hh
        clear hh HH
        cases hrm : roomL x.mr x.rs a with
        | false =>
          rw [if_pos (.inr hrm)] at HE
          have HRM := hid (fun W (hx : PX W ρ r b { x with asked := askN x.ws a x.asked } l) => (by have := RdRoom_any a l.rb x.mr x.rs W hx.ins.rd; rw [hrm] at this; exact this : Calls Try.prog 78 #[.pointer (some ⟨l.rb, 0, none⟩), .int .i64 a] W fun e w' => e = .returned (.bool false) ∧ Below W.heap.size W w'))
          clear hrm
          go_upto_region 8 with (first | (go_at_call 77; go_must ((with_reducible refine HH2.out.mono ?_); rintro e w2 ⟨rfl, hb⟩; have HX2 := hid (HX.out.below hb); have HW2 := hid (HW.out.trans (Wrote.of_below hb _)); have d7 : w2.cell? ⟨b, 7, none⟩ = some (.pointer (some ⟨l.rb, 0, none⟩)) := HX2.out.c 7; have g7 := HX2.out.f 7; clear hb)) | (go_at_call 78; go_must ((with_reducible refine (HRM.out _ HX2.out).mono ?_); rintro e w3 ⟨rfl, hb⟩; have HX3 := hid (HX2.out.below hb); have HW3 := hid (HW2.out.trans (Wrote.of_below hb _)); clear hb)))
          have HA := hid (tpabort_any 4 HX3.out)
          go_wp2_with (go_at_call 68; go_must ((with_reducible refine HA.out.mono ?_); rintro e w4 ⟨rfl, hr⟩; have HR := hid hr; clear hr))
          go_ret
          rw [HE.out]
          exact TpRet.from (w1 := w3) ⟨rfl, HR.out⟩ (Gr.refl _ _) HW3.out
        | true =>
          rw [if_neg (fun h => h.elim (fun h => by rw [HHT.out] at h; cases h) (fun h => by rw [hrm] at h; cases h))] at HE
          have HRM := hid (fun W (hx : PX W ρ r b { x with asked := askN x.ws a x.asked } l) => (by have := RdRoom_any a l.rb x.mr x.rs W hx.ins.rd; rw [hrm] at this; exact this : Calls Try.prog 78 #[.pointer (some ⟨l.rb, 0, none⟩), .int .i64 a] W fun e w' => e = .returned (.bool true) ∧ Below W.heap.size W w'))
          clear hrm
          go_upto_region 9 with (first | (go_at_call 77; go_must ((with_reducible refine HH2.out.mono ?_); rintro e w2 ⟨rfl, hb⟩; have HX2 := hid (HX.out.below hb); have HW2 := hid (HW.out.trans (Wrote.of_below hb _)); have d7 : w2.cell? ⟨b, 7, none⟩ = some (.pointer (some ⟨l.rb, 0, none⟩)) := HX2.out.c 7; have g7 := HX2.out.f 7; clear hb)) | (go_at_call 78; go_must ((with_reducible refine (HRM.out _ HX2.out).mono ?_); rintro e w3 ⟨rfl, hb⟩; have HX3 := hid (HX2.out.below hb); have HW3 := hid (HW2.out.trans (Wrote.of_below hb _)); clear hb)))
          have c18 : w3.cell? ⟨b, 18, none⟩ = some (.int .i64 x.at_) := HX3.out.c 18
          have f18 := HX3.out.f 18
          have hw := (Wrote.refl (fun k => k = b) w3).setCell (p := ⟨b, 18, none⟩) (fun _ => rfl) (.int .i64 a)
          have HX4 := hid (HX3.out.upd (x' := { x with asked := askN x.ws a x.asked, at_ := a }) (l' := l) (blk_setCell HX3.out.blk 18 (.int .i64 a)) hw rfl rfl rfl ⟨rfl, rfl⟩)
          have HW4 := hid (HW3.out.trans (HX3.out.wr1 hw))
          clear hw HRM HX2 HW2 d7 g7
          go_upto_region 10 with fail
          refine wp_renamed (fun W => PX W ρ r b { x with asked := askN x.ws a x.asked, at_ := a } l ∧ Wrote (Own ρ r) w W) ⟨HX4.out, HW4.out⟩ ?_
          clear HX4 HW4 HX3 HW3 c18 f18
          rintro W ⟨hx, hw⟩
          have HW := hid hw
          have HA := hid (askLit [4, 5, 3, 12] #[.int .i64 4, .int .i64 5, .int .i64 3, .int .i64 12] rfl 4 rfl (by decide) hx (by intro p hp; simp at hp; rcases hp with rfl | rfl | rfl | rfl <;> simp [isPart]))
          clear hx hw
          go_wp2_with (go_at_call 79; go_must ((with_reducible refine HA.out.mono ?_); rintro e w5 ⟨rfl, hr⟩; have HR := hid hr; clear hr))
          go_ret
          rw [HE.out]
          exact TpRet.from (w1 := W) ⟨rfl, HR.out⟩ (Gr.refl _ _) HW.out

set_option maxHeartbeats 2000000 in
theorem tpWrite_any (a v : Int) (h : PX w ρ r b x l) : Calls Try.prog 100 #[.pointer (some ⟨b, 0, none⟩), .int .i64 a, .int .i64 v] w (TpRet w ρ r b (pWrite x a v)) := by
  have H := hid h
  have HRD := hid (tpready_any h)
  clear h
  cases hr : readyB x with
  | false =>
    have HE := hid (show pWrite x a v = (2, x) from if_neg (ready_no hr))
    rw [hr] at HRD
    clear hr
    go_enter Try.func100, Try.ntmps100
    go_wp2_with (go_at_call 75; go_must ((with_reducible refine HRD.out.mono ?_); rintro e w1 ⟨rfl, rfl⟩))
    go_ret
    rw [HE.out]
    exact ⟨rfl, ρ, l, Gr.refl _ _, H.out, Wrote.refl _ _⟩
  | true =>
    obtain ⟨hal, hpa⟩ := ready_yes hr
    have HE := hid (show pWrite x a v = (if hasP x a = false then abortP x 4
      else if wputB x.mw x.ws a = true then (1, { x with ws := wputL x.mw x.ws a v }) else abortP { x with ws := wputL x.mw x.ws a v } 4) from if_pos ⟨hal, hpa⟩)
    rw [hr] at HRD
    clear hr hal hpa
    have HH := hid (has_any a H.out)
    cases hh : hasP x a with
    | false =>
      rw [if_pos hh] at HE
      rw [hh] at HH
      clear hh
      go_enter Try.func100, Try.ntmps100
      go_upto_region 4 with (first | (go_at_call 75; go_must ((with_reducible refine HRD.out.mono ?_); rintro e w1 ⟨rfl, rfl⟩)) | (go_at_call 77; go_must ((with_reducible refine HH.out.mono ?_); rintro e w2 ⟨rfl, hb⟩; have HX2 := hid (H.out.below hb); have HW2 := hid (Wrote.of_below hb (Own ρ r)); clear hb)))
      have HA := hid (tpabort_any 4 HX2.out)
      go_wp2_with (go_at_call 68; go_must ((with_reducible refine HA.out.mono ?_); rintro e w3 ⟨rfl, hr⟩; have HR := hid hr; clear hr))
      go_ret
      rw [HE.out]
      exact TpRet.from (w1 := w2) ⟨rfl, HR.out⟩ (Gr.refl _ _) HW2.out
    | true =>
      rw [if_neg (fun h => by rw [hh] at h; cases h)] at HE
      rw [hh] at HH
      clear hh
      have HP := hid (fun W (hx : PX W ρ r b x l) => wPut_any a v l.wb x.mw x.ws x.asked W hx.ins.wr)
      unfold WPutRet at HP
      cases hp : wputB x.mw x.ws a with
      | true =>
        rw [hp, if_pos rfl] at HE
        rw [hp] at HP
        clear hp
        go_enter Try.func100, Try.ntmps100
        go_wp2_with (first | (go_at_call 75; go_must ((with_reducible refine HRD.out.mono ?_); rintro e w1 ⟨rfl, rfl⟩)) | (go_at_call 77; go_must ((with_reducible refine HH.out.mono ?_); rintro e w2 ⟨rfl, hb⟩; have HX2 := hid (H.out.below hb); have HW2 := hid (Wrote.of_below hb (Own ρ r)); have d8 : w2.cell? ⟨b, 8, none⟩ = some (.pointer (some ⟨l.wb, 0, none⟩)) := HX2.out.c 8; have g8 := HX2.out.f 8; clear hb)) | (go_at_call 134; go_must ((with_reducible refine (HP.out _ HX2.out).mono ?_); rintro e w3 ⟨rfl, hs, hw⟩; have HX3 := hid (HX2.out.writes (n := x.asked) hs hw); have HW3 := hid (HW2.out.trans (HX2.out.ownW hw)); clear hs hw)))
        go_ret
        rw [HE.out]
        exact ⟨rfl, ρ, l, Gr.refl _ _, HX3.out, HW3.out⟩
      | false =>
        rw [hp, if_neg (show ¬ (false = true) from Bool.false_ne_true)] at HE
        rw [hp] at HP
        clear hp
        go_enter Try.func100, Try.ntmps100
        go_upto_region 4 with (first | (go_at_call 75; go_must ((with_reducible refine HRD.out.mono ?_); rintro e w1 ⟨rfl, rfl⟩)) | (go_at_call 77; go_must ((with_reducible refine HH.out.mono ?_); rintro e w2 ⟨rfl, hb⟩; have HX2 := hid (H.out.below hb); have HW2 := hid (Wrote.of_below hb (Own ρ r)); have d8 : w2.cell? ⟨b, 8, none⟩ = some (.pointer (some ⟨l.wb, 0, none⟩)) := HX2.out.c 8; have g8 := HX2.out.f 8; clear hb)) | (go_at_call 134; go_must ((with_reducible refine (HP.out _ HX2.out).mono ?_); rintro e w3 ⟨rfl, hs, hw⟩; have HX3 := hid (HX2.out.writes (n := x.asked) hs hw); have HW3 := hid (HW2.out.trans (HX2.out.ownW hw)); clear hs hw)))
        have HA := hid (tpabort_any 4 HX3.out)
        go_wp2_with (go_at_call 68; go_must ((with_reducible refine HA.out.mono ?_); rintro e w4 ⟨rfl, hr⟩; have HR := hid hr; clear hr))
        go_ret
        rw [HE.out]
        exact TpRet.from (w1 := w3) ⟨rfl, HR.out⟩ (Gr.refl _ _) HW3.out

set_option maxHeartbeats 2000000 in
theorem tpCommit_any (h : PX w ρ r b x l) : Calls Try.prog 57 #[.pointer (some ⟨b, 0, none⟩)] w (TpRet w ρ r b (pCommit x)) := by
  have H := hid h
  have HRD := hid (tpready_any h)
  clear h
  cases hr : readyB x with
  | false =>
    have HE := hid (show pCommit x = (2, x) from if_neg (ready_no hr))
    rw [hr] at HRD
    clear hr
    go_enter Try.func57, Try.ntmps57
    go_wp2_with (go_at_call 75; go_must ((with_reducible refine HRD.out.mono ?_); rintro e w1 ⟨rfl, rfl⟩))
    go_ret
    rw [HE.out]
    exact ⟨rfl, ρ, l, Gr.refl _ _, H.out, Wrote.refl _ _⟩
  | true =>
    obtain ⟨hal, hpa⟩ := ready_yes hr
    have HE := hid (show pCommit x = (if x.ws = [] then askP x [6, 3, 15, 11, 16] else askP x [6, 14, 7, 3, 15, 8, 9, 11, 16]) from if_pos ⟨hal, hpa⟩)
    rw [hr] at HRD
    clear hr hal hpa
    have HC := hid (wLen_any l.wb x.mw x.ws x.asked w H.out.ins.wr)
    have c8 : w.cell? ⟨b, 8, none⟩ = some (.pointer (some ⟨l.wb, 0, none⟩)) := H.out.c 8
    have f8 := H.out.f 8
    by_cases hn : x.ws = []
    · rw [if_pos hn] at HE
      rw [hn] at HC
      clear hn
      go_enter Try.func57, Try.ntmps57
      go_upto_region 4 with (first | (go_at_call 75; go_must ((with_reducible refine HRD.out.mono ?_); rintro e w1 ⟨rfl, rfl⟩)) | (go_at_call 95; go_must ((with_reducible refine HC.out.mono ?_); rintro e w2 ⟨rfl, hb⟩; have HX2 := hid (H.out.below hb); have HW2 := hid (Wrote.of_below hb (Own ρ r)); clear hb)))
      have HA := hid (askLit [6, 3, 15, 11, 16] #[.int .i64 6, .int .i64 3, .int .i64 15, .int .i64 11, .int .i64 16] rfl 5 rfl (by decide) HX2.out (by intro p hp; simp at hp; rcases hp with rfl | rfl | rfl | rfl | rfl <;> simp [isPart]))
      go_wp2_with (go_at_call 79; go_must ((with_reducible refine HA.out.mono ?_); rintro e w5 ⟨rfl, hr⟩; have HR := hid hr; clear hr))
      go_ret
      rw [HE.out]
      exact TpRet.from (w1 := w2) ⟨rfl, HR.out⟩ (Gr.refl _ _) HW2.out
    · rw [if_neg hn] at HE
      have hz : ((x.ws.length : Int) == 0) = false := by rw [eq_dec]; exact decide_eq_false (fun e => hn (List.eq_nil_of_length_eq_zero e))
      clear hn
      go_enter Try.func57, Try.ntmps57
      go_upto_region 5 with (first | (go_at_call 75; go_must ((with_reducible refine HRD.out.mono ?_); rintro e w1 ⟨rfl, rfl⟩)) | (go_at_call 95; go_must ((with_reducible refine HC.out.mono ?_); rintro e w2 ⟨rfl, hb⟩; have HX2 := hid (H.out.below hb); have HW2 := hid (Wrote.of_below hb (Own ρ r)); clear hb)))
      have HA := hid (askLit [6, 14, 7, 3, 15, 8, 9, 11, 16] #[.int .i64 6, .int .i64 14, .int .i64 7, .int .i64 3, .int .i64 15, .int .i64 8, .int .i64 9, .int .i64 11, .int .i64 16] rfl 9 rfl (by decide) HX2.out (by intro p hp; simp at hp; rcases hp with rfl | rfl | rfl | rfl | rfl | rfl | rfl | rfl | rfl <;> simp [isPart]))
      go_wp2_with (go_at_call 79; go_must ((with_reducible refine HA.out.mono ?_); rintro e w5 ⟨rfl, hr⟩; have HR := hid hr; clear hr))
      go_ret
      rw [HE.out]
      exact TpRet.from (w1 := w2) ⟨rfl, HR.out⟩ (Gr.refl _ _) HW2.out

end Go.Proofs.Ytjfinnjmcnjciaa
