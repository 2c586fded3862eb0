/-
  The document's set of what is to be written: Put.
-/
import Derived.Test.YtdkjeggichgimaaWrR
namespace Go.Proofs.Ytdkjeggichgimaa
open Go.RowKit
attribute [local go_sem] Later.cell Later.frozen

/-! ### Put -/
theorem IsW.setv {w : World} {B rb R g m c : Nat} {ws : List Wd} {n : Nat} (h : IsW w B rb R (.slice (some ⟨g, 0, none⟩) m c) ws n) {i : Nat} {p : Wd} (x : Int) (hi : ws[i]? = some p) :
    IsW (w.setCell ⟨g, i * 2 + 1, none⟩ (.int .i64 x)) B rb R (.slice (some ⟨g, 0, none⟩) m c) (ws.set i (p.1, x)) n := by
  have hne : rb ≠ g := fun e => h.ne (by rw [e]; rfl)
  refine ⟨((((Wrote.refl (fun j => j = g) w).setCell (fun _ => rfl) _)).block rb h.lt hne).trans h.blk, h.list.setv x hi, h.ne, h.base, h.room, by rw [List.length_set]; exact h.len, fun q hq => ?_⟩
  rcases List.mem_or_eq_of_mem_set hq with hq | rfl
  · exact h.pos q hq
  · exact h.pos p (List.mem_of_getElem? hi)
theorem set_last (ws : List Wd) (k x : Int) : (ws ++ [(k, (0 : Int))]).set ws.length (k, x) = ws ++ [(k, x)] := by
  rw [List.set_append_right _ _ (Nat.le_refl _), Nat.sub_self]
  rfl
def RPutRet2 (w : World) (B rb R : Nat) (v : Value) (ws : List Wd) (n : Nat) (k x : Int) (e : Ending) (w' : World) : Prop :=
  e = .returned (.bool (wputB R ws k)) ∧ ∃ v', IsW w' B rb R v' (wputL R ws k x) n ∧ Wrote (fun j => j = rb ∨ v.ownBlock = some j) w w' ∧ (∀ g, v'.ownBlock = some g → v.ownBlock = some g ∨ w.heap.size ≤ g)
set_option maxHeartbeats 4000000 in
theorem wrPut_any (k x : Int) (B rb R : Nat) (v : Value) (ws : List Wd) (n : Nat) (w : World) (h : IsW w B rb R v ws n) :
    Calls Try.prog 14 #[.pointer (some ⟨rb, 0, none⟩), .int .i64 k, .int .i64 x] w (RPutRet2 w B rb R v ws n k x) := by
  have H := hid h
  obtain ⟨ad, c, hv, hrow⟩ := h.list.form
  have hl : ws.length ≤ 1000 := by have := h.len; have := h.room; omega
  have HD := hid (show Calls Try.prog 23 #[.slice ad ws.length c, .int .i64 k] w fun e w' => e = .returned (.int .i64 (findF ws k)) ∧ w = w' from find_any k ad ws.length c ws w hrow hl)
  obtain ⟨c0, c1, c2, cf⟩ := h.facts
  have hlt := h.lt
  rw [hv] at c2
  by_cases hk : k < 0
  · have HF := hid (show ∀ W, Below w.heap.size w W → RPutRet2 w B rb R v ws n k x (.returned (.bool false)) W from fun W hb => ⟨by rw [wputB_neg hk], v, by rw [wputL_neg x hk]; exact H.out.below hb, Wrote.of_below hb _, fun g hg => .inl hg⟩)
    have g0 := cf 0
    have g2 := cf 2
    clear h hrow hl cf H
    subst hv
    generalize findF ws k = z at *
    generalize ws.length = m at *
    go_enter Try.func14, Try.ntmps14
    go_upto_region 2 with (go_at_call 23; go_must ((with_reducible refine HD.out.mono ?_); rintro e w2 ⟨rfl, rfl⟩))
    go_quiet (fail)
    go_wp2_with fail
    go_ret
    exact HF.out _ ⟨rfl, rfl, rfl, Nat.le_refl _, fun _ _ => rfl⟩
  · have h0 : 0 ≤ k := by omega
    have kd : decide (k < 0) = false := decide_eq_false (by omega)
    have g0 := cf 0
    have g1 := cf 1
    have g2 := cf 2
    have hl2 := h.len
    have hl3 := h.room
    cases hh : hasL ws k with
    | true =>
      obtain ⟨i, p, hi, hp, hpk, hf⟩ := find_spec hh
      rw [hi] at HD
      have hil := (List.getElem?_eq_some_iff.1 hp).1
      have i0 : (0 : Int) ≤ (i : Int) := by omega
      have ibd : decide ((i : Int) < 0) = false := decide_eq_false (by omega)
      have i1 : (i : Int) < (ws.length : Int) := by omega
      obtain ⟨g, c', hv2⟩ := h.list.block (by omega)
      rw [hv] at hv2
      simp only [Value.slice.injEq, true_and] at hv2
      obtain ⟨rfl, rfl⟩ := hv2
      have HF := hid (show ∀ W, IsW W B rb R (.slice (some ⟨g, 0, none⟩) ws.length c) ws n → Below w.heap.size w W → RPutRet2 w B rb R v ws n k x (.returned (.bool true)) (W.setCell ⟨g, i * 2 + 1, none⟩ (.int .i64 x)) from fun W hs hb => ⟨by rw [wputB_there h0 hh], .slice (some ⟨g, 0, none⟩) ws.length c, by
          rw [wputL_there x h0 hh, updL_at ws i p k x hp hpk hf, ← hpk]
          exact hs.setv x hp, (Wrote.of_below hb (fun j => j = rb ∨ v.ownBlock = some j)).setCell (fun _ => .inr (by rw [hv]; rfl)) _, fun q hq => .inl (by rw [hv]; exact hq)⟩)
      have HP := hid hp
      clear h hrow hl cf hh hi hpk hf hp
      subst hv
      go_enter Try.func14, Try.ntmps14
      go_upto_region 2 with (go_at_call 23; go_must ((with_reducible refine HD.out.mono ?_); rintro e w2 ⟨rfl, rfl⟩))
      refine wp_region_later (by kernel_rfl) (by kernel_rfl) ?_
      repeat (go_big_quiet_step (fail))
      refine wpQuiet_nil ?_
      rintro _ ⟨xx, rfl⟩
      go_upto_region 7 with fail
      refine wp_renamed (fun W => IsW W B rb R (.slice (some ⟨g, 0, none⟩) ws.length c) ws n ∧ Below w.heap.size w W) (And.intro (H.out.below xx.below) xx.below) ?_
      clear H HD c0 c1 c2 g0 g1 g2 hlt
      rintro W ⟨hk, hb⟩
      have HK := hid hk
      have HB := hid hb
      obtain ⟨_, _, c2, _⟩ := hk.facts
      obtain ⟨q0, q1, q2⟩ := hk.list.cellAt HP.out
      clear hk hb
      generalize ws.length = m at *
      go_wp2_with fail
      go_ret
      exact HF.out _ HK.out HB.out
    | false =>
      rw [findF_none hh] at HD
      by_cases hn : ws.length < R
      · have HF := hid (show ∀ W g m c, IsW W B rb R (.slice (some ⟨g, 0, none⟩) m c) (ws ++ [(k, 0)]) n → Wrote (fun j => j = rb ∨ v.ownBlock = some j) w W → (∀ j, (Value.slice (some ⟨g, 0, none⟩) m c).ownBlock = some j → v.ownBlock = some j ∨ w.heap.size ≤ j) → RPutRet2 w B rb R v ws n k x (.returned (.bool true)) (W.setCell ⟨g, ws.length * 2 + 1, none⟩ (.int .i64 x)) from fun W g m c hs hw hg => ⟨by rw [wputB_new h0 hh, decide_eq_true hn], .slice (some ⟨g, 0, none⟩) m c, by
            rw [wputL_new x h0 hh hn, ← set_last ws k x]
            exact hs.setv (p := (k, 0)) x (by rw [List.getElem?_append_right (Nat.le_refl _), Nat.sub_self]; rfl), hw.setCell (fun hlt => by
              rcases hg g rfl with h | h
              · exact .inr h
              · exact absurd hlt (Nat.not_lt.2 h)) _, hg⟩)
        have HN := hid hn
        have HV := hid hv
        have nd : decide ((R : Int) ≤ (ws.length : Int)) = false := decide_eq_false (by omega)
        have n1 : (ws.length : Int) < (R : Int) := by omega
        have HLN := hid (show ws.length + 1 ≤ 1000 by omega)
        clear h hrow hl cf hh
        subst hv
        generalize hnn : ws.length = m at *
        go_enter Try.func14, Try.ntmps14
        go_upto_region 2 with (go_at_call 23; go_must ((with_reducible refine HD.out.mono ?_); rintro e w2 ⟨rfl, rfl⟩))
        refine wp_region_later (by kernel_rfl) (by kernel_rfl) ?_
        repeat (go_big_quiet_step (fail))
        refine wpQuiet_nil ?_
        rintro _ ⟨xx, rfl⟩
        go_upto_region 5 with fail
        refine wp_renamed (fun W => IsW W B rb R (.slice ad m c) ws n ∧ Below w.heap.size w W) (And.intro (H.out.below xx.below) xx.below) ?_
        clear H HD c0 c1 c2 g0 g1 g2 hlt
        rintro W ⟨hk, hb⟩
        have HK := hid hk
        have HB := hid hb
        obtain ⟨_, _, c2, cf⟩ := hk.facts
        have g2 := cf 2
        have hlt := hk.lt
        have HBB := hid (show B ≤ W.heap.size from by have := hk.base; omega)
        clear hk hb cf
        go_upto_region 6 with ((at_builtin; go_must (refine wpList_append_wl rfl (.tmp 38) (.tmp 41) rfl rfl HK.out.list rfl (p := (k, 0)) rfl (by rw [hnn]; exact HLN.out) HBB.out ?_); intro v' w' hl' hw' hg'; obtain ⟨ra, rl, rc, rfl⟩ : ∃ ra rl rc, v' = .slice ra rl rc := (by (obtain ⟨a9, c9, h9, _⟩ := hl'.form; exact ⟨_, _, _, h9⟩)); have HL' := hid hl'; have HW' := hid hw'; have HG' := hid hg'; have HBK := hid (show w'.heap[rb]? = some (.cells #[.int .i64 R, .int .i64 n, .slice ad m c] 31 (0, 0)) from (hw'.block rb HK.out.lt HK.out.ne).trans HK.out.blk); have m2 := cell_of_blk HBK.out 2; have f2 := frozen_of_blk HBK.out 2; clear hl' hw' hg' c2 g2))
        have HE := hid (show IsW (w'.setCell ⟨rb, 2, none⟩ (.slice ra rl rc)) B rb R (.slice ra rl rc) (ws ++ [(k, 0)]) n ∧ Wrote (fun j => j = rb ∨ (Value.slice ad m c).ownBlock = some j) w (w'.setCell ⟨rb, 2, none⟩ (.slice ra rl rc)) ∧ (∀ j, (Value.slice ra rl rc).ownBlock = some j → (Value.slice ad m c).ownBlock = some j ∨ w.heap.size ≤ j) from by
          have hgw : ∀ g, (Value.slice ra rl rc).ownBlock = some g → (Value.slice ad m c).ownBlock = some g ∨ w.heap.size ≤ g := fun g h => (HG'.out g h).imp_right (Nat.le_trans HB.out.size)
          have hne : (Value.slice ra rl rc).ownBlock ≠ some rb := fun h => by
            rcases HG'.out rb h with h | h
            · exact HK.out.ne h
            · have := HK.out.lt; omega
          have hRn := HN.out
          refine ⟨⟨blk_setCell HBK.out 2 _, HL'.out.kept ((Wrote.refl (fun j => j = rb) w').setCell (fun _ => rfl) _) (fun q hq e => hne (by rw [← e]; exact hq)), hne, HK.out.base, HK.out.room, by rw [List.length_append, List.length_singleton]; omega, HK.out.pos.snoc h0 0⟩, ?_, hgw⟩
          exact ((Wrote.of_below HB.out (fun j => j = rb ∨ (Value.slice ad m c).ownBlock = some j)).then HW'.out fun i _ h => .inr h).setCell (fun _ => .inl rfl) _)
        refine wp_renamed (fun W => IsW W B rb R (.slice ra rl rc) (ws ++ [(k, 0)]) n ∧ Wrote (fun j => j = rb ∨ (Value.slice ad m c).ownBlock = some j) w W) ⟨HE.out.1, HE.out.2.1⟩ ?_
        have HGW := hid HE.out.2.2
        clear HE HK HB HL' HW' HG' HBK m2 f2 HBB hlt nd
        rintro W2 ⟨hk, hw⟩
        obtain ⟨g, c', hv2⟩ := hk.list.block (by simp)
        rw [List.length_append, hnn, List.length_singleton] at hv2
        simp only [Value.slice.injEq] at hv2
        obtain ⟨rfl, rfl, rfl⟩ := hv2
        have HK := hid hk
        have HW := hid hw
        obtain ⟨_, _, c2, _⟩ := hk.facts
        obtain ⟨q0, q1, q2⟩ := hk.list.cellAt (i := m) (p := (k, 0)) (by rw [← hnn, List.getElem?_append_right (Nat.le_refl _), Nat.sub_self]; rfl)
        have e0 : (((m + 1 : Nat) : Int) - 1) = (m : Int) := by omega
        have e1 : wrap64 (((m + 1 : Nat) : Int) - 1) = (m : Int) := by unfold wrap64; omega
        have i0 : (0 : Int) ≤ (m : Int) := by omega
        have i1 : (m : Int) < ((m + 1 : Nat) : Int) := by omega
        clear hk hw
        go_wp2_with fail
        go_ret
        exact HF.out _ _ _ _ HK.out HW.out HGW.out
      · have HF := hid (show ∀ W, Below w.heap.size w W → RPutRet2 w B rb R v ws n k x (.returned (.bool false)) W from fun W hb => ⟨by rw [wputB_new h0 hh, decide_eq_false hn], v, by rw [wputL_full x h0 hh hn]; exact H.out.below hb, Wrote.of_below hb _, fun g hg => .inl hg⟩)
        have nd : decide ((R : Int) ≤ (ws.length : Int)) = true := decide_eq_true (by omega)
        clear h hrow hl cf hh H
        subst hv
        generalize ws.length = m at *
        go_enter Try.func14, Try.ntmps14
        go_upto_region 2 with (go_at_call 23; go_must ((with_reducible refine HD.out.mono ?_); rintro e w2 ⟨rfl, rfl⟩))
        refine wp_region_later (by kernel_rfl) (by kernel_rfl) ?_
        repeat (go_big_quiet_step (fail))
        refine wpQuiet_nil ?_
        rintro _ ⟨xx, rfl⟩
        go_wp2_with fail
        go_ret
        exact HF.out _ xx.below

end Go.Proofs.Ytdkjeggichgimaa
