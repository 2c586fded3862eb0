/-
  THE CONTRACTS of package writes: Put and List.
-/
import Derived.Test.YtjfinnjmcnjciaaWrW
namespace Go.Proofs.Ytjfinnjmcnjciaa
open Go.RowKit
attribute [local go_sem] Later.cell Later.frozen

/-- What Put comes to. -/
def WPutRet (w : World) (b R : Nat) (ws : List Wd) (n : Nat) (k v : Int) (e : Ending) (w' : World) : Prop :=
  e = .returned (.bool (wputB R ws k)) ∧ WSet w' b R (wputL R ws k v) n ∧ Wrote (fun j => j = b) w w'
theorem or_filt (ws : List Wd) {k : Int} (h : 0 ≤ k) : bits .or .u64 (filtL ws : Int) (bitF k : Int) = ((filtL ws ||| bitN k : Nat) : Int) := by
  rw [or_u64 _ _ (filtL_lt ws) (bitF_lt k), bitF_pos h]
/-- Where Put stands with the new word laid. -/
structure QMid (w : World) (b R : Nat) (ws : List Wd) (n c f : Nat) (W : World) : Prop where
  raw : WRaw W b R ws n c f
  wrote : Wrote (fun j => j = b) w W
set_option maxHeartbeats 4000000 in
theorem wPut_any (k v : Int) (b R : Nat) (ws : List Wd) (n : Nat) (w : World) (h : WSet w b R ws n) :
    Calls Try.prog 134 #[.pointer (some ⟨b, 0, none⟩), .int .i64 k, .int .i64 v] w (WPutRet w b R ws n k v) := by
  by_cases hk : k < 0
  · have HF := hid (show WPutRet w b R ws n k v (.returned (.bool false)) w from ⟨by rw [wputB_neg hk], by rw [wputL_neg v hk]; exact h, Wrote.refl _ _⟩)
    clear h
    go_enter Try.func134, Try.ntmps134
    go_wp2
    go_ret
    exact HF.out
  · have h0 : 0 ≤ k := by omega
    have H := hid h
    have HD := hid (pfind_any k b R ws n w h)
    cases hh : hasL ws k with
    | true =>
      obtain ⟨i, p, hi, hp, hpk, hf⟩ := find_spec hh
      rw [hi] at HD
      have HF := hid (show ∀ W, Below w.heap.size w W → WPutRet w b R ws n k v (.returned (.bool true)) (W.setCell ⟨b, 2 + i * 2 + 1, none⟩ (.int .i64 v)) from fun W hb => ⟨by rw [wputB_there h0 hh], by rw [wputL_there v h0 hh]; exact (H.out.below hb).upd v hp hpk hf, (Wrote.of_below hb (fun j => j = b)).setCell (fun _ => rfl) _⟩)
      have HP := hid hp
      have i0 : (0 : Int) ≤ (i : Int) := by omega
      have i1 : (i : Int) < 32 := by have := (List.getElem?_eq_some_iff.1 hp).1; have := h.len; have := h.room; omega
      clear h hh hi hpk hf hp
      go_enter Try.func134, Try.ntmps134
      go_upto_region 5 with (go_at_call 116; go_must ((with_reducible refine HD.out.mono ?_); rintro e w1 ⟨rfl, hb⟩; have HB := hid hb; clear hb))
      obtain ⟨p1, p2⟩ := p
      obtain ⟨q0, q1⟩ := (H.out.below HB.out).facts.2.2.2.2.2 i _ HP.out
      have f1 := (H.out.below HB.out).facts.2.2.2.2.1 (2 + i * 2 + 1)
      go_wp2_with fail
      go_ret
      exact HF.out _ HB.out
    | false =>
      rw [findF_none hh] at HD
      by_cases hn : ws.length < R
      · have HF := hid (show ∀ W, QMid w b R (ws ++ [(k, v)]) n (ws.length + 1) (filtL ws ||| bitN k) W → WPutRet w b R ws n k v (.returned (.bool true)) W from fun W hq => ⟨by rw [wputB_new h0 hh, decide_eq_true hn], by
            rw [wputL_new v h0 hh hn]
            exact hq.raw.set (by rw [List.length_append, List.length_singleton]) (by rw [filtL_snoc]) H.out.room (by rw [List.length_append, List.length_singleton]; omega) (H.out.pos.snoc h0 v), hq.wrote⟩)
        have HBT := hid (bit_any k)
        have HOR := hid (or_filt ws h0)
        clear h hh
        go_enter Try.func134, Try.ntmps134
        go_upto_region 7 with (go_at_call 116; go_must ((with_reducible refine HD.out.mono ?_); rintro e w1 ⟨rfl, hb⟩; have HB := hid hb; clear hb))
        refine wp_renamed (fun W => WSet W b R ws n ∧ Below w.heap.size w W) ⟨H.out.below HB.out, HB.out⟩ ?_
        clear HB HD H
        rintro W ⟨hk, hb⟩
        have HK := hid hk
        have HB := hid hb
        have hlt := hk.lt
        obtain ⟨c0, c1, c66, c67, cf, _⟩ := hk.facts
        have g0 := cf 0
        have g1 := cf 1
        have n0 : ¬ (ws.length : Int) = (R : Int) := by omega
        clear hk hb cf c66 c67
        go_upto_region 7 with fail
        go_quiet (fail)
        go_upto_region 9 with fail
        refine wp_renamed (fun W => WSet W b R ws n ∧ Below w.heap.size w W) ⟨HK.out.keep rfl, HB.out.os, HB.out.tape, HB.out.output, HB.out.size, HB.out.block⟩ ?_
        clear HK HB hlt c0 c1 g0 g1
        rintro W ⟨hk, hb⟩
        have hlt := hk.lt
        have n1 : (0 : Int) ≤ (ws.length : Int) := by omega
        have n2 : (ws.length : Int) < 32 := by have := hk.room; omega
        have HM := hid (show QMid w b R (ws ++ [(k, v)]) n ws.length (filtL ws) (((W.setCell ⟨b, 2 + ws.length * 2, none⟩ (.int .i64 k)).setCell ⟨b, 2 + ws.length * 2 + 1, none⟩ (.int .i64 v)).drew) from
          ⟨(hk.raw.word k v (by omega)).keep rfl, (((Wrote.of_below hb (fun j => j = b)).setCell (fun _ => rfl) _).setCell (fun _ => rfl) _).drew⟩)
        obtain ⟨c0, c1, c66, c67, cf, _⟩ := hk.facts
        have f1 := cf 1
        have f2 := cf (2 + ws.length * 2)
        have f3 := cf (2 + ws.length * 2 + 1)
        obtain ⟨o0, c2⟩ := hk.cell (i := 2 + ws.length * 2) (by omega)
        obtain ⟨o1, c3⟩ := hk.cell (i := 2 + ws.length * 2 + 1) (by omega)
        clear cf hk hb c0 c66 c67
        generalize ws.length = m at *
        go_region
        generalize (((W.setCell ⟨b, 2 + m * 2, none⟩ (.int .i64 k)).setCell ⟨b, 2 + m * 2 + 1, none⟩ (.int .i64 v)).drew) = W2 at HM ⊢
        clear c1 c2 c3 f1 f2 f3 o0 o1 hlt
        obtain ⟨_, c1, c66, _, cf⟩ := HM.out.raw.facts
        have f1 := cf 1
        clear c66 cf
        go_upto_region 11 with fail
        have HM2 := hid (show QMid w b R (ws ++ [(k, v)]) n (m + 1) (filtL ws) (W2.setCell ⟨b, 1, none⟩ (.int .i64 ((m : Int) + 1))) from ⟨HM.out.raw.count (m + 1), HM.out.wrote.setCell (fun _ => rfl) _⟩)
        clear c1 f1 HM
        generalize W2.setCell ⟨b, 1, none⟩ (.int .i64 ((m : Int) + 1)) = W3 at HM2 ⊢
        have hlt := HM2.out.raw.lt
        obtain ⟨_, _, c66, _, cf⟩ := HM2.out.raw.facts
        have f1 := cf 66
        clear cf
        have eo := HOR.out
        refine wp_region_later_tail 9 (by kernel_rfl) (by kernel_rfl) ?_
        simp only [List.take_succ_cons, List.take_zero, List.drop_succ_cons, List.drop_zero]
        repeat (go_big_quiet_step ((go_at_call 141; with_reducible exact later_same (HBT.out _))))
        refine wpQuiet_nil ?_
        rintro _ ⟨x, rfl⟩
        go_wp2_with fail
        go_ret
        exact HF.out _ ⟨(HM2.out.raw.below x.below).filt _, (HM2.out.wrote.then (Wrote.of_below x.below (fun _ => False)) (fun _ _ h => h.elim)).setCell (fun _ => rfl) _⟩
      · have HF := hid (show ∀ W, Below w.heap.size w W → WPutRet w b R ws n k v (.returned (.bool false)) W from fun W hb => ⟨by rw [wputB_new h0 hh, decide_eq_false hn], by rw [wputL_full v h0 hh hn]; exact H.out.below hb, Wrote.of_below hb _⟩)
        clear h hh
        go_enter Try.func134, Try.ntmps134
        go_upto_region 7 with (go_at_call 116; go_must ((with_reducible refine HD.out.mono ?_); rintro e w1 ⟨rfl, hb⟩; have HB := hid hb; clear hb))
        have HK := hid (H.out.below HB.out)
        have hlt := HK.out.lt
        obtain ⟨c0, c1, _, _, cf, _⟩ := HK.out.facts
        have g0 := cf 0
        have g1 := cf 1
        have n0 : (ws.length : Int) = (R : Int) := by have := H.out.len; omega
        clear cf
        go_quiet (fail)
        go_wp2_with fail
        go_ret
        exact HF.out _ ⟨HB.out.os, HB.out.tape, HB.out.output, HB.out.size, HB.out.block⟩

/-- What List hands out: a list of the call's own. -/
def ListRet (w : World) (ws : List Wd) (e : Ending) (w' : World) : Prop := ∃ v, e = .returned v ∧ WL w' w.heap.size v ws ∧ Below w.heap.size w w'
theorem WL.mono {w : World} {B B' : Nat} {v : Value} {ws : List Wd} (h : WL w B v ws) (hB : B' ≤ B) : WL w B' v ws := by
  refine ⟨h.1, ?_⟩
  rcases h.2 with h' | ⟨g, cap, cur, h1, h2, h3⟩
  · exact .inl h'
  · exact .inr ⟨g, cap, cur, h1, Nat.le_trans hB h2, h3⟩
/-- append of some words that stand somewhere, to none. -/
theorem wp_append_all {o : Oper} {a : Act} {W : World} {K : Act → World → Prop} {Q : Exit → Act → World → Prop} (s x : Operand)
    (ho : o.op = .call { callee := .builtin .append, args := #[s, x], argTypes := #[44, 44] })
    (hs : a.eval s = .slice none 0 0) {b off c : Nat} {ws : List Wd} (hx : a.eval x = .slice (some ⟨b, off, none⟩) ws.length c)
    (hw : ∀ k p, ws[k]? = some p → WAt W b (off + k * 2) p) (h6 : ws.length ≤ 1000)
    (h : ∀ v' w', WL w' W.heap.size v' ws → Below W.heap.size W w' → K (a.put o.dst v') w') : o.wp Try.prog a W K Q := by
  obtain ⟨iI, hi, hz0, hz1, hz2⟩ := info_parts infoWd
  obtain ⟨v', w', hr, h2, h3, h4, h5⟩ := run_append_own_at (P := Try.prog) W W.heap.size 44 o.type 51 iI (.agg #[.int .i64 0, .int .i64 0]) 2 16 Try.underlying44 hi hz0 hz1 hz2 rfl (by decide) (.slice none 0 0) 0 [] (WL.nil W W.heap.size) ⟨b, off, none⟩ ws.length c (wcells ws) (wcells_len ws)
    (fun j u hu => by
      have hj := (List.getElem?_eq_some_iff.1 hu).1
      rw [wcells_len] at hj
      obtain ⟨p, hp⟩ := word_at (ws := ws) (k := j / 2) (by omega)
      obtain ⟨d0, d1⟩ := hw _ _ hp
      obtain ⟨e0, e1⟩ := wcells_at ws _ _ hp
      rw [add_at]
      by_cases hm : j % 2 = 0
      · have ej : j = j / 2 * 2 := by omega
        rw [ej] at hu ⊢
        rw [e0] at hu
        exact d0.trans hu
      · have ej : j = j / 2 * 2 + 1 := by omega
        rw [ej] at hu ⊢
        rw [e1] at hu
        exact d1.trans hu)
    (fun u hu => by
      obtain ⟨p, _, hp⟩ := List.mem_flatMap.1 hu
      simp at hp
      rcases hp with rfl | rfl <;> rfl) (by unfold maxLen; omega) (by omega) (Nat.le_refl _)
  unfold Oper.wp execOp
  simp only [ho, resolve, invoke, builtin, Sem.run_bind, Sem.run_pure, Result.andThen_ok, List.map_toArray, List.map_cons, List.map_nil, hs, hx, hr]
  refine h v' w' ?_ ?_
  · unfold WL
    rw [Nat.zero_add, List.nil_append] at h2
    exact h2
  · exact ((Wrote.refl (fun _ => False) W).grown h3 fun j hj _ => by simp [Value.ownBlock] at hj).below (Nat.le_refl _) fun _ _ h => h

set_option maxHeartbeats 400000 in
theorem List_any (b R : Nat) (ws : List Wd) (n : Nat) (w : World) (h : WSet w b R ws n) :
    Calls Try.prog 65 #[.pointer (some ⟨b, 0, none⟩)] w (ListRet w ws) := by
  have H := hid h
  have HL := hid (wlist_any b R ws n w h)
  have HLN := hid (show ws.length ≤ 1000 by have := h.len; have := h.room; omega)
  clear h
  go_enter Try.func65, Try.ntmps65
  go_wp2_with (first | (go_at_call 103; (with_reducible refine HL.out.mono ?_); rintro e w1 ⟨rfl, hb⟩; have HB := hid hb; clear hb) | (at_builtin; go_must (refine wpList_plain rfl fun K hK => ?_; refine wp_append_all (.const (.slice none 0 0)) (.tmp 4) rfl rfl rfl (H.out.below HB.out).facts.2.2.2.2.2 HLN.out fun v' w' h1 h2 => hK _ _ ?_; have HV := hid h1; have HB2 := hid h2; clear h1 h2)))
  go_ret
  exact ⟨_, rfl, HV.out.mono HB.out.size, bthen HB.out HB2.out⟩
set_option maxHeartbeats 400000 in
theorem List_nil (w : World) : Calls Try.prog 65 #[.pointer none] w fun e w' => e = .returned (.slice none 0 0) ∧ w = w' := by
  go_enter Try.func65, Try.ntmps65
  go_wp2_with (go_at_call 103; (with_reducible refine (wlist_nil _).mono ?_); rintro e w' ⟨rfl, rfl⟩)
  go_ret
  exact ⟨rfl, rfl⟩

end Go.Proofs.Ytjfinnjmcnjciaa
