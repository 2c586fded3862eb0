/-
  NorecAlone.
-/
import Derived.Test.YtjfinnjmcnjciaaNqK
namespace Go.Proofs.Ytjfinnjmcnjciaa
open Go.RowKit
attribute [local go_sem] Later.cell Later.frozen

set_option maxHeartbeats 40000000 in
set_option maxRecDepth 100000 in
theorem norecalone_any (a0 : Int) (ad : Option Addr) (len0 cap0 : Nat) (ps : List Tq3) (w : World) (hrow : TqRow w ad len0 ps) :
    Calls Try.prog 5 #[.int .i64 a0, .slice ad len0 cap0] w fun e w' => e = .returned (.bool true) ∧ Below w.heap.size w w' := by
  have HM := hid (Map15_any w)
  have HBO := hid (fun W => (show Calls Try.prog 16 #[.agg #[.int .i64 3, .int .i64 1, .int .i64 3, .int .i64 0, .int .i64 4]] W (MadeBoth 34 W) from by have := Both_any mT W mT_ok; rw [mT_size] at this; exact this))
  have HTD := hid (fun W => told15_any W)
  have HROW := hid hrow
  have HLZ := hid hrow.cnt
  have HCK := hid (show (wrap64 (1 + wrap64 ((IntKind.u64.wrap a0).tmod 2))) = 1 ∨ (wrap64 (1 + wrap64 ((IntKind.u64.wrap a0).tmod 2))) = 2 from ck_in a0)
  have HNW := hid (fun (v : Value) (W : World) => (show Calls Try.prog 17 #[.int .i64 1, .int .i64 (wrap64 (1 + wrap64 ((IntKind.u64.wrap a0).tmod 2)))] W (TpNewRet W (rho0 w v) 0 (PT.new mT 1 32 32 1000)) from New15_any 1 (wrap64 (1 + wrap64 ((IntKind.u64.wrap a0).tmod 2))) W (rho0 w v) 0 (by decide)))
  clear hrow
  by_cases h8 : 8 < len0
  · have h8i : (8 : Int) < (len0 : Int) := by omega
    go_enter Try.func5, Try.ntmps5
    go_wp2_with (go_at_call 13; go_must ((with_reducible refine (HTD.out _).mono ?_); rintro e w1 ⟨rfl, hb⟩; have HB := hid hb; clear hb))
    go_ret
    exact ⟨rfl, HB.out⟩
  have h8i : ¬ (8 : Int) < (len0 : Int) := by omega
  have H8 := hid (show len0 ≤ 8 by omega)
  clear h8
  have hmm := @run_makeMap Try.prog
  go_enter Try.func5, Try.ntmps5
  go_upto_region 4 with (go_at_call 15; go_must ((with_reducible refine HM.out.mono ?_); rintro e w1 ⟨rfl, hb⟩; have HB1 := hid (bnew hb (.cells #[.int .i64 3, .int .i64 1, .int .i64 3, .int .i64 0, .int .i64 4] 31)); have HMP := hid (heap_alloc_new w1 (.cells #[.int .i64 3, .int .i64 1, .int .i64 3, .int .i64 0, .int .i64 4] 31)); have HG1 := hid hb.size; clear hb))
  refine wp_renamed (fun W => W.heap[w1.heap.size]? = some (.cells #[.int .i64 3, .int .i64 1, .int .i64 3, .int .i64 0, .int .i64 4] 31 (0, 0)) ∧ Below w.heap.size w W) ⟨HMP.out, HB1.out⟩ ?_
  generalize w1.heap.size = g1 at *
  clear HMP HB1 HM
  rintro w1 ⟨hmp, hb⟩
  have HMP := hid hmp
  have HB1 := hid hb
  have x0 := cell_of_blk hmp 0
  have x1 := cell_of_blk hmp 1
  have x2 := cell_of_blk hmp 2
  have x3 := cell_of_blk hmp 3
  have x4 := cell_of_blk hmp 4
  have xf0 := frozen_of_blk hmp 0
  have xf1 := frozen_of_blk hmp 1
  have xf2 := frozen_of_blk hmp 2
  have xf3 := frozen_of_blk hmp 3
  have xf4 := frozen_of_blk hmp 4
  simp only [List.getElem?_toArray, List.getElem?_cons_zero, List.getElem?_cons_succ] at x0 x1 x2 x3 x4
  clear hmp hb
  go_wp2_with (go_at_call 16; go_must ((with_reducible refine (HBO.out _).mono ?_); rintro e w2 ⟨mb, vw, c, vr, rfl, hp, hb⟩; have HP := hid hp; have HB2 := hid hb; clear hp hb))
  clear x0 x1 x2 x3 x4 xf0 xf1 xf2 xf3 xf4 HBO hmm
  have HB2M := hid (bnew (bthen HB1.out HB2.out) (.map #[] 0))
  go_loopw [8, 10] (fun v i W => ∃ j : Nat, j ≤ len0 ∧ i = .int .i64 j ∧ PlI (w2.alloc (.map #[] 0)) ps W v j) (fun _ i _ => len0 - (intOf i).toNat)
  case atStart => exact ⟨0, Nat.zero_le _, rfl, PO.nil _ _, bid _⟩
  case round =>
    obtain ⟨j, hj, rfl, hi⟩ := hrel
    have HI := hid hi
    obtain ⟨pa, pc, rfl, _, _⟩ := hi.own.form
    clear hi
    by_cases hlt : j < len0
    · obtain ⟨p, hp⟩ := tq_at (ps := ps) (k := j) (by rw [HLZ.out]; exact hlt)
      obtain ⟨g, off, hbo, hg, hcs⟩ := ((HROW.out.below (bthen HB2M.out HI.out.below))).at (by omega)
      have ht := hcs j p hp
      have HPS := hid (planF_snoc hp)
      have HT8 := hid (show (planF (ps.take j)).length ≤ 900 by rw [planF_len, List.length_take]; have := H8.out; omega)
      obtain ⟨p1, p2, p3⟩ := p
      have n1 : (0 : Int) ≤ (j : Int) := by omega
      have n2 : (j : Int) < (len0 : Int) := by omega
      subst hbo
      have hb5 := bdrew (bid wr)
      have HAC := hid (show PbCells g (off + j * 3) ⟨p1, p2, p3⟩ wr.drew from ⟨(hb5.cell (p := ⟨g, _, none⟩) hg).trans ht.c0, (hb5.cell (p := ⟨g, _, none⟩) hg).trans ht.c1, (hb5.cell (p := ⟨g, _, none⟩) hg).trans ht.c2⟩)
      have HAC2 := hid (HAC.out.below (bnew (bid wr.drew) (.cells #[.int .i64 0, .int .i64 0, .int .i64 0] 40)) (Nat.lt_of_lt_of_le hg hb5.size))
      have HO5 := hid (HI.out.own.below hb5)
      have HB5 := hid (bthen HI.out.below hb5)
      have HJ1 := hid (Nat.succ_le_of_lt hlt)
      clear hcs ht hp hb5
      generalize hw5 : wr.drew = w5 at *
      have hne1 : Nonempty (Sat (PbCells g (off + j * 3) ⟨p1, p2, p3⟩)) := ⟨⟨_, HAC.out⟩⟩
      have hne2 : Nonempty (Sat (fun _ => True)) := ⟨⟨w, trivial⟩⟩
      have y0 := fun (y : Sat (PbCells g (off + j * 3) ⟨p1, p2, p3⟩)) => y.p.1
      have y1 := fun (y : Sat (PbCells g (off + j * 3) ⟨p1, p2, p3⟩)) => y.p.2.1
      have y2 := fun (y : Sat (PbCells g (off + j * 3) ⟨p1, p2, p3⟩)) => y.p.2.2
      go_upto_region 12 with fail
      refine wp_region_staged (PaW w5 (w5.alloc (.cells #[.int .i64 0, .int .i64 0, .int .i64 0] 40)) (w5.alloc (.cells #[.int .i64 (kF p1), .int .i64 (aF p2), .int .i64 p3] 40))) (by kernel_rfl) (by kernel_rfl) (fun L hL => by unfold PaW; rw [hL, hL]; exact hw5) ?_
      refine wpS_plain (fun _ => True) (fun _ _ _ _ _ => trivial) (fun _ _ h => h) rfl rfl ?_
      intro KK hKK
      go_big_quiet_op
      go_big_quiet_on
      refine wpS_plain (fun _ => True) (fun _ _ _ _ _ => trivial) (fun _ _ h => h) rfl rfl ?_
      intro KK hKK
      go_big_quiet_op
      go_big_quiet_on
      refine wpS_plain (fun _ => True) (fun _ _ _ _ _ => trivial) (fun _ _ h => h) rfl rfl ?_
      intro KK hKK
      go_big_quiet_op
      go_big_quiet_on
      refine wpS_plain (fun _ => True) (fun _ _ _ _ _ => trivial) (fun _ _ h => h) rfl rfl ?_
      intro KK hKK
      go_big_quiet_op
      go_big_quiet_on
      refine wpS_plain (PbCells g (off + j * 3) ⟨p1, p2, p3⟩) (fun L W hL hcl hd => by have h5 := hcl.no hL (j := 5) (by kernel_rfl); have h6 := hcl.no h5 (j := 6) (by kernel_rfl); have h7 := hcl.no h6 (j := 7) (by kernel_rfl); have h21 := hcl.no h7 (j := 21) (by kernel_rfl); have h23 := hcl.no h21 (j := 23) (by kernel_rfl); exact PaW.cells hd h23 HAC.out HAC2.out) (fun _ _ h => h) rfl rfl ?_
      intro KK hKK
      go_big_quiet_op
      go_big_quiet_on
      refine wpS_plain (fun _ => True) (fun _ _ _ _ _ => trivial) (fun _ _ h => h) rfl rfl ?_
      intro KK hKK
      go_big_quiet_op
      go_big_quiet_on
      refine wpS_plain (fun _ => True) (fun _ _ _ _ _ => trivial) (fun _ _ h => h) rfl rfl ?_
      intro KK hKK
      go_big_quiet_op
      go_big_quiet_on
      refine wpS_plain (fun _ => True) (fun _ _ _ _ _ => trivial) (fun _ _ h => h) rfl rfl ?_
      intro KK hKK
      go_big_quiet_op
      go_big_quiet_on
      refine wpS_plain (fun _ => True) (fun _ _ _ _ _ => trivial) (fun _ _ h => h) rfl rfl ?_
      intro KK hKK
      go_big_quiet_op
      go_big_quiet_on
      refine wpS_plain (fun _ => True) (fun _ _ _ _ _ => trivial) (fun _ _ h => h) rfl rfl ?_
      intro KK hKK
      go_big_quiet_op
      go_big_quiet_on
      refine wpS_plain (fun _ => True) (fun _ _ _ _ _ => trivial) (fun _ _ h => h) rfl rfl ?_
      intro KK hKK
      go_big_quiet_op
      go_big_quiet_on
      refine wpS_plain (fun _ => True) (fun _ _ _ _ _ => trivial) (fun _ _ h => h) rfl rfl ?_
      intro KK hKK
      go_big_quiet_op
      go_big_quiet_on
      refine wpS_plain (PbCells g (off + j * 3) ⟨p1, p2, p3⟩) (fun L W hL hcl hd => by have h13 := hcl.no hL (j := 13) (by kernel_rfl); have h14 := hcl.no h13 (j := 14) (by kernel_rfl); have h15 := hcl.no h14 (j := 15) (by kernel_rfl); have h21 := hcl.no h15 (j := 21) (by kernel_rfl); have h23 := hcl.no h21 (j := 23) (by kernel_rfl); exact PaW.cells hd h23 HAC.out HAC2.out) (fun _ _ h => h) rfl rfl ?_
      intro KK hKK
      go_big_quiet_op
      go_big_quiet_on
      refine wpS_plain (fun _ => True) (fun _ _ _ _ _ => trivial) (fun _ _ h => h) rfl rfl ?_
      intro KK hKK
      go_big_quiet_op
      go_big_quiet_on
      refine wpS_plain (fun _ => True) (fun _ _ _ _ _ => trivial) (fun _ _ h => h) rfl rfl ?_
      intro KK hKK
      go_big_quiet_op
      go_big_quiet_on
      refine wpS_plain (fun _ => True) (fun _ _ _ _ _ => trivial) (fun _ _ h => h) rfl rfl ?_
      intro KK hKK
      go_big_quiet_op
      go_big_quiet_on
      refine wpS_plain (fun _ => True) (fun _ _ _ _ _ => trivial) (fun _ _ h => h) rfl rfl ?_
      intro KK hKK
      go_big_quiet_op
      go_big_quiet_on
      refine wpS_plain (fun _ => True) (fun _ _ _ _ _ => trivial) (fun _ _ h => h) rfl rfl ?_
      intro KK hKK
      go_big_quiet_op
      go_big_quiet_on
      refine wpS_plain (fun _ => True) (fun _ _ _ _ _ => trivial) (fun _ _ h => h) rfl rfl ?_
      intro KK hKK
      go_big_quiet_op
      go_big_quiet_on
      refine wpS_plain (fun _ => True) (fun _ _ _ _ _ => trivial) (fun _ _ h => h) rfl rfl ?_
      intro KK hKK
      go_big_quiet_op
      go_big_quiet_on
      refine wpS_plain (PbCells g (off + j * 3) ⟨p1, p2, p3⟩) (fun L W hL hcl hd => by have h21 := hcl.no hL (j := 21) (by kernel_rfl); have h23 := hcl.no h21 (j := 23) (by kernel_rfl); exact PaW.cells hd h23 HAC.out HAC2.out) (fun _ _ h => h) rfl rfl ?_
      intro KK hKK
      go_big_quiet_op
      go_big_quiet_on
      refine wpS_value (.agg #[.int .i64 (kF p1), .int .i64 (aF p2), .int .i64 p3]) rfl (fun _ => by go_simp; exact ⟨rfl, rfl⟩) (fun _ _ h => h) ?_
      (try simp only [Act.put, List.getElem_toArray, List.getElem_cons_zero, List.getElem_cons_succ, List.setIfInBounds_toArray, List.set_cons_zero, List.set_cons_succ])
      refine ⟨.pointer (some ⟨w5.heap.size, 0, none⟩), .inl ⟨rfl, fun L W hL hcl hd => ?_⟩, ?_⟩
      · have h23 := hcl.no hL (j := 23) (by kernel_rfl)
        obtain rfl : W = w5 := by unfold PaW at hd; rw [hL, h23] at hd; exact hd
        go_simp
        refine ⟨rfl, ?_⟩
        unfold PaW
        rw [bump_at, bump_ne _ (by decide), h23]
        rfl
      (try simp only [Act.put, List.getElem_toArray, List.getElem_cons_zero, List.getElem_cons_succ, List.setIfInBounds_toArray, List.set_cons_zero, List.set_cons_succ])
      refine wpS_store rfl ?_ ?_
      · intro L W hL hcl hd
        have h22 := hcl.dep (i := 22) (by kernel_rfl)
        obtain rfl : W = w5.alloc (.cells #[.int .i64 0, .int .i64 0, .int .i64 0] 40) := by unfold PaW at hd; rw [hL, h22] at hd; exact hd
        refine ⟨w5.alloc (.cells #[.int .i64 (kF p1), .int .i64 (aF p2), .int .i64 p3] 40), store_execO (.tmp 11) (.tmp 63) rfl w5.heap.size rfl _ _ _ _ _ _ rfl rfl, ?_⟩
        unfold PaW
        rw [bump_at]
        rfl
      (try simp only [Act.put, List.getElem_toArray, List.getElem_cons_zero, List.getElem_cons_succ, List.setIfInBounds_toArray, List.set_cons_zero, List.set_cons_succ])
      intro L W hall hd
      have HWE := hid (show W = w5.alloc (.cells #[.int .i64 (kF p1), .int .i64 (aF p2), .int .i64 p3] 40) from by unfold PaW at hd; rw [hall 23 (by decide)] at hd; exact hd)
      clear hd hall y0 y1 y2 hne1 hne2
      have HZ := hid (show W.heap[w5.heap.size]? = some (.cells #[.int .i64 (kF p1), .int .i64 (aF p2), .int .i64 p3] 40 (0, 0)) ∧ Below w5.heap.size w5 W from by rw [HWE.out]; exact ⟨heap_alloc_new _ _, bnew (bid _) _⟩)
      clear HWE HAC HAC2 hw5
      have HO6 := hid (HO5.out.below HZ.out.2)
      have HB6 := hid (bthen HB5.out HZ.out.2)
      generalize w5.heap.size = gh at *
      have z0 := cell_of_blk HZ.out.1 0
      have z1 := cell_of_blk HZ.out.1 1
      have z2 := cell_of_blk HZ.out.1 2
      simp only [List.getElem?_toArray, List.getElem?_cons_zero, List.getElem?_cons_succ] at z0 z1 z2
      clear HZ HO5 HB5
      go_wp2_with (at_builtin; go_must (refine wpList_append_opX rfl (.tmp 64) (.tmp 66) rfl rfl HO6.out rfl (kF p1) (aF p2) p3 (op3 ⟨p1, p2, p3⟩) (op3_kind _) (op3_at _) rfl rfl HT8.out HB6.out.size ?_); intro v' w' ho' hb'; have HO7 := hid (show PO w' (w2.alloc (.map #[] 0)).heap.size v' (planF (ps.take (j + 1))) from by rw [HPS.out]; exact ho'); have HB7 := hid (HB6.out.trans hb'); clear ho' hb'; clear HO6 HB6; obtain ⟨va3, vc3, rfl, _, _⟩ := HO7.out.form)
      go_roundw
      case rel => exact ⟨j + 1, HJ1.out, by go_num, HO7.out, HB7.out⟩
      case measure => simp [intOf]; omega
    · obtain rfl : j = len0 := by omega
      have hpo := HI.out.own
      rw [show ps.take j = ps from by rw [← HLZ.out]; exact List.take_length] at hpo
      have HPO := hid hpo
      have HB3 := hid HI.out.below
      rw [show ps.take j = ps from by rw [← HLZ.out]; exact List.take_length]
      have HPL8 := hid (show (planF ps).length ≤ 8 by rw [planF_len, HLZ.out]; exact H8.out)
      clear hpo HI
      generalize hpn : (planF ps).length = pn at *
      have HNE := hid (show g1 ≠ w2.heap.size from fun e => by have h1 := lt_of_block HMP.out; have h2 := HB2.out.size; omega)
      go_upto_region 15 with (go_at_call 17; go_must ((with_reducible refine (HNW.out (.slice pa pn pc) _).mono ?_); rintro e w4 ⟨xb, ρ', l, rfl, _, hg, hx, hb⟩; have HS := hid (LwM.start (ck := wrap64 (1 + wrap64 ((IntKind.u64.wrap a0).tmod 2))) HG1.out HMP.out HB1.out HP.out HB2.out HPO.out HB3.out (by have := HPL8.out; omega) hg hx hb); clear hg hx hb))
      clear HMP HB1 HP HB2 HPO HB3 HNW HB2M
      refine wp_renamed (LwM w g1 w2.heap.size w4.heap.size mb vw (RU.new 1 (wrap64 (1 + wrap64 ((IntKind.u64.wrap a0).tmod 2))) (planF ps)) S0 0 []) HS.out ?_
      generalize w4.heap.size = ub
      generalize w2.heap.size = bm at *
      clear HS
      intro W hs
      have HS := hid hs
      clear hs
      have HPL := hid (show (planF ps).length ≤ 8 ∧ ∀ o ∈ planF ps, o.2.1 < 4 from ⟨by have := HPL8.out; omega, planF_at ps⟩)
      generalize (wrap64 (1 + wrap64 ((IntKind.u64.wrap a0).tmod 2))) = ck at *
      have HU := hid (show UnI ck [] (planF ps) S0 (RU.new 1 ck (planF ps)) from .new rfl rfl rfl)
      have HMU := hid (UnI.new_mu (ck := ck) HPL.out.1)
      obtain ⟨⟨xb, e0⟩, e2, e3, e4, ef, el⟩ := HS.out.lw.run
      have ef0 := ef 0
      clear ef
      go_upto_block 2 with fail
      clear e0 e2 e3 e4 ef0 el
      go_cut [13] (fun v W => (∃ z : Int, v = .int .i64 z) ∧ ∃ u s N, N ≤ 80000 ∧ UnI ck [] (planF ps) s u ∧ u.fin ≠ 0 ∧ LwM w g1 bm ub mb vw u s N [] W)
      case first =>
        go_wp2_with fail
        go_loopw [13] (fun y W => ∃ j : Nat, j ≤ 200 ∧ y = .int .i64 (j : Int) ∧ ∃ u s N, N ≤ 0 + 10 * j ∧ UnI ck [] (planF ps) s u ∧ (u.fin = 0 → muS u + j ≤ 200) ∧ LwM w g1 bm ub mb vw u s N [] W) (fun y _ => 200 - (intOf y).toNat)
        case atStart => exact ⟨0, Nat.zero_le _, rfl, _, _, 0, Nat.le_refl _, HU.out, (fun _ => HMU.out), HS.out⟩
        case round =>
          clear HU HMU HS
          obtain ⟨j, hj, rfl, u, s, N, hN, hu, hm, hs⟩ := hrel
          have HU := hid hu
          have HS := hid hs
          have HM := hid hm
          clear hu hs hm
          obtain ⟨⟨xb, e0⟩, e2, e3, e4, ef, el⟩ := HS.out.lw.run
          have ef0 := ef 0
          have ef4 := ef 4
          clear ef
          obtain ⟨⟨x0, x1, x2, x3, x4⟩, xf, xl⟩ := HS.out.lw.cells
          have xf0 := xf 0
          have xf1 := xf 1
          have xf2 := xf 2
          have xf3 := xf 3
          have xf4 := xf 4
          clear xf
          have hj1 : wrap64 ((j : Int) + 1) = ((j + 1 : Nat) : Int) := q_200 hj
          have HN7 := hid (show N ≤ 80000 from q_le 0 200 hN hj (by decide))
          by_cases hgo : j < 200 ∧ u.fin = 0
          · obtain ⟨hjk, hf⟩ := hgo
            have hjk1 : (j : Int) < 200 := q_i200 hjk
            rw [hf] at e4
            have HNX := hid (HS.out.next (HU.out.pick hf) HN7.out)
            have HUN := hid (HU.out.next (.inl rfl) HCK.out HPL.out hf)
            have HUL := hid (HU.out.less HCK.out HPL.out hf)
            have HMN := hid (show (nextR s u).1.fin = 0 → muS (nextR s u).1 + (j + 1) ≤ 200 from fun h0 => q_mu1 (HUL.out.2 h0) (HM.out hf))
            have HN1 := hid (q_ten 0 hN)
            have HJ1 := hid (Nat.succ_le_of_lt hjk)
            have HM2 := hid (q_m200 hjk)
            clear hf hN hj hjk
            go_upto_region 20 with fail
            clear e0 e2 e3 e4 ef0 ef4 el hjk1 h8i
            go_upto_region 19 with (go_at_call 18; go_must ((with_reducible refine HNX.out.mono ?_); rintro e w7 ⟨rfl, hs⟩; have HS7 := hid hs; clear hs))
            clear x0 x1 x2 x3 x4 xf0 xf1 xf2 xf3 xf4 xl HS HU HM HUL
            go_wp2_with fail
            go_roundw
            case rel => exact ⟨j + 1, HJ1.out, by go_num, _, _, N + 10, HN1.out, HUN.out, HMN.out, HS7.out⟩
            case measure => first | (rw [hj1]; exact HM2.out) | exact HM2.out
          · by_cases hjk : j < 200
            · have hf : ¬ u.fin = 0 := fun h => hgo ⟨hjk, h⟩
              have HF := hid hf
              have hjk1 : (j : Int) < 200 := q_i200 hjk
              rw [(HU.out.ends hf).2] at e4
              clear hgo x0 x1 x2 x3 x4 xf0 xf1 xf2 xf3 xf4 xl e2 e3 hN hj hjk hf
              go_wp2_with fail
              go_meet
              case rel => exact ⟨⟨_, rfl⟩, u, s, N, HN7.out, HU.out, HF.out, HS.out⟩
            · have HF := hid (show u.fin ≠ 0 from fun h0 => q_pb (q_muo (HM.out h0) hjk) (HU.out.less HCK.out HPL.out h0).1)
              have hjk1 : ¬ (j : Int) < 200 := q_ni200 hjk
              clear hgo x0 x1 x2 x3 x4 xf0 xf1 xf2 xf3 xf4 xl e0 e2 e3 e4 ef0 ef4 el hN hj hjk
              go_wp2_with fail
              go_meet
              case rel => exact ⟨⟨_, rfl⟩, u, s, N, HN7.out, HU.out, HF.out, HS.out⟩
      case rest =>
      clear HU HMU HS
      obtain ⟨⟨z, rfl⟩, u, s, N, hN, hu, hf, hs⟩ := hcut
      have HS := hid hs
      have HEX := hid (hu.ends hf)
      clear hu hf hs hN
      obtain ⟨⟨xb, e0⟩, e2, e3, e4, ef, el⟩ := HS.out.lw.run
      have ef0 := ef 0
      clear ef
      have HSE := hid (HS.out.lw.sets e0)
      go_upto_region 22 with (go_at_call 19; go_must ((with_reducible refine HSE.out.mono ?_); rintro e w7 ⟨va, vb, rfl, _, hwl, hb⟩; have HB7 := hid hb; have HWL := hid (WL.mono hwl (Nat.succ_le_of_lt HS.out.im.lt)); clear hb hwl))
      clear HSE e0 e2 e3 e4 ef0 el
      have HS7 := hid (HS.out.later HB7.out)
      clear HS HB7
      obtain ⟨n, hn⟩ : ∃ n, u.x.ws.length = n := ⟨_, rfl⟩
      obtain ⟨wa, wcp, rfl, _⟩ := WL.form HWL.out
      rw [hn] at HWL
      rw [hn]
      have HN8 := hid (show n ≤ 8 from by rw [← hn]; exact HEX.out.1.ws.len)
      go_upto_block 4 with fail
      go_cut [16] (fun v W => (∃ z : Int, v = .int .i64 z) ∧ LwM w g1 bm ub mb vw u s N u.x.ws W)
      case first =>
        go_wp2_with fail
        go_loopw [16] (fun y W => ∃ d : Nat, d ≤ n ∧ y = .int .i64 (d : Int) ∧ LwM w g1 bm ub mb vw u s N (u.x.ws.take d) W ∧ WL W (bm + 1) (.slice wa n wcp) u.x.ws) (fun y _ => n - (intOf y).toNat)
        case atStart => exact ⟨0, Nat.zero_le _, rfl, HS7.out, HWL.out⟩
        case round =>
          clear HS7 HWL
          obtain ⟨d, hd, rfl, hs, hwl⟩ := hrel
          have HS := hid hs
          have HWL := hid hwl
          clear hs hwl
          by_cases hlt : d < n
          · obtain ⟨p, hp⟩ := word_at (ws := u.x.ws) (k := d) (by rw [hn]; exact hlt)
            obtain ⟨g, gc, hv⟩ := WL.blockX HWL.out (by rw [hn]; exact q_pos hlt)
            simp only [Value.slice.injEq] at hv
            obtain ⟨rfl, hx9, rfl⟩ := hv
            clear hx9
            obtain ⟨c0, c1, _⟩ := WL.cellX HWL.out hp
            obtain ⟨dd, hdd, hpd⟩ := HEX.out.1.ws.one p (List.mem_of_getElem? hp)
            obtain ⟨pa, pv⟩ := p
            have HPA := hid (show 0 ≤ pa ∧ pa < 34 from by rw [show pa = dataP dd from hpd]; exact dataP_in hdd)
            have HTK := hid (take_more hp)
            have HTL := hid (q_len8 (d := d) hn HN8.out)
            have n1 : (0 : Int) ≤ (d : Int) := q_0i d
            have n2 : (d : Int) < (n : Int) := q_in hlt
            have hd1 := q_dn hlt HN8.out
            have HMD := hid (q_mn hlt)
            have HD1 := hid (Nat.succ_le_of_lt hlt)
            have gl := WL.old HWL.out (g := g) rfl
            clear hpd hdd hp hd hlt
            go_upto_region 25 with fail
            refine wp_region_later_tail 11 (by kernel_rfl) (by kernel_rfl) ?_
            simp only [List.take_succ_cons, List.take_zero, List.drop_succ_cons, List.drop_zero]
            repeat (go_big_quiet_step (fail))
            refine wpQuiet_nil ?_
            rintro _ ⟨z, rfl⟩
            have HSZ := hid (HS.out.later z.below)
            have HWZ := hid (WL.below HWL.out z.below)
            clear HS HWL c0 c1
            go_wp2_with (at_mapUpdate; go_must (refine wpList_put_IM rfl (.tmp 111) (.tmp 116) (.tmp 121) rfl rfl HSZ.out.im HTL.out HPA.out.1 HPA.out.2 rfl rfl ?_); intro w9 him hgr; have HS9 := hid (show LwM w g1 bm ub mb vw u s N (u.x.ws.take (d + 1)) w9 from by rw [HTK.out]; exact HSZ.out.put HNE.out him hgr); have HW9 := hid (WL.kept HWZ.out ((Wrote.refl (fun k => k = bm) _).grown hgr fun j hj _ => by injection hj with hj; exact hj.symm) (fun k hk e => q_own (WL.old HWZ.out hk).1 e)); clear him hgr)
            clear HSZ HWZ
            go_roundw
            case rel => exact ⟨d + 1, HD1.out, by go_num, HS9.out, HW9.out⟩
            case measure => first | (rw [hd1]; exact HMD.out) | exact HMD.out
          · have hnl : ¬ (d : Int) < (n : Int) := q_nin hlt
            have hdn : d = n := q_eqn hlt hd
            have HSF := hid (show LwM w g1 bm ub mb vw u s N u.x.ws wr from by have := HS.out; rw [hdn, ← hn, List.take_length] at this; exact this)
            clear hlt hd HS
            go_wp2_with fail
            go_meet
            case rel => exact ⟨⟨_, rfl⟩, HSF.out⟩
      case rest =>
      obtain ⟨⟨z, rfl⟩, hs⟩ := hcut
      have HS := hid hs
      clear hs HS7 HWL
      go_upto_block 6 with fail
      go_cut [17, 18, 19, 20] (fun v y _ _ W => v = .int .i64 (n : Int) ∧ (∃ z : Int, y = .int .i64 z) ∧ LwM w g1 bm ub mb vw u s N u.x.ws W)
      case first =>
        go_wp2_with fail
        go_loopw [17, 18, 19, 20] (fun v y _ _ W => ∃ d : Nat, d ≤ 4 ∧ y = .int .i64 (d : Int) ∧ v = .int .i64 (cntW u.x.ws d : Int) ∧ LwM w g1 bm ub mb vw u s N u.x.ws W) (fun _ y _ _ _ => 4 - (intOf y).toNat)
        case atStart => exact ⟨0, Nat.zero_le _, rfl, rfl, HS.out⟩
        case round =>
          clear HS
          obtain ⟨d, hd, rfl, rfl, hs⟩ := hrel
          have HS := hid hs
          clear hs
          by_cases hd4 : d < 4
          · have HDA := hid (data_calls hd4)
            have hdi := q_i4 hd4
            have hd1 := q_d1 hd4
            have HM4 := hid (q_m4 hd4)
            have HDD := hid (Nat.succ_le_of_lt hd4)
            have hc1 := q_c1 (Nat.le_trans (cntW_le u.x.ws d) (Nat.le_trans hd (by decide)))
            have HDP := hid (dataP_in hd4)
            have HCN := hid (show cntW u.x.ws (d + 1) = cntW u.x.ws d + (if hasL u.x.ws (dataP d) = true then 1 else 0) from rfl)
            have hpk := HEX.out.1.dat hd4
            have HPK := hid (fun V (hv : LwS w g1 ub mb vw u s N V) => (by have := hv.peek (dataP d); rw [hpk] at this; exact this : Calls Try.prog 21 #[.pointer (some ⟨mb, 0, none⟩), .int .i64 (dataP d)] V fun e W2 => e = .returned (.int .i64 (valL u.x.ws (dataP d))) ∧ V = W2))
            have HLK := hid (fun V (hv : LwM w g1 bm ub mb vw u s N u.x.ws V) => hv.im.look HEX.out.1.ws HDP.out.1 HDP.out.2)
            obtain ⟨⟨x0, x1, x2, x3, x4⟩, xf, xl⟩ := HS.out.lw.cells
            have xf0 := xf 0
            have xf1 := xf 1
            have xf2 := xf 2
            have xf3 := xf 3
            have xf4 := xf 4
            clear xf hpk
            generalize valL u.x.ws (dataP d) = pv at *
            generalize dataP d = da at *
            cases hh : hasL u.x.ws da with
            | true =>
              have HC1 := hid (show cntW u.x.ws (d + 1) = cntW u.x.ws d + 1 from by rw [HCN.out, hh]; rfl)
              rw [hh] at HLK
              clear hd hd4 HTD HCN
              go_upto_region 31 with (go_at_call 20; go_must ((with_reducible refine (HDA.out _).mono ?_); rintro e w7 ⟨rfl, hb⟩; have HS7 := hid (HS.out.later hb); have hlk := HLK.out _ HS7.out; clear hb))
              clear HS x0 x1 x2 x3 x4 xf0 xf1 xf2 xf3 xf4 xl HLK hlk
              obtain ⟨⟨x0, x1, x2, x3, x4⟩, xf, xl⟩ := HS7.out.lw.cells
              have xf0 := xf 0
              have xf1 := xf 1
              have xf2 := xf 2
              have xf3 := xf 3
              have xf4 := xf 4
              clear xf
              go_upto_region 29 with (first | (go_at_call 20; go_must ((with_reducible refine (HDA.out _).mono ?_); rintro e w8 ⟨rfl, hb⟩; have HS8 := hid (HS7.out.later hb); clear hb)) | (go_at_call 21; go_must ((with_reducible refine (HPK.out _ HS8.out.lw).mono ?_); rintro e w9 ⟨rfl, rfl⟩)))
              clear HS7 HDA HPK x0 x1 x2 x3 x4 xf0 xf1 xf2 xf3 xf4 xl
              go_wp2_with fail
              go_roundw
              case rel => exact ⟨d + 1, HDD.out, by go_num, by rw [HC1.out]; first | rfl | (rw [hc1]), HS8.out⟩
              case measure => first | (rw [hd1]; exact HM4.out) | exact HM4.out
            | false =>
              have HC1 := hid (show cntW u.x.ws (d + 1) = cntW u.x.ws d from by rw [HCN.out, hh]; rfl)
              rw [hh] at HLK
              clear hd hd4 HTD HCN
              go_upto_region 31 with (go_at_call 20; go_must ((with_reducible refine (HDA.out _).mono ?_); rintro e w7 ⟨rfl, hb⟩; have HS7 := hid (HS.out.later hb); have hlk := HLK.out _ HS7.out; clear hb))
              clear HS x0 x1 x2 x3 x4 xf0 xf1 xf2 xf3 xf4 xl HLK hlk
              obtain ⟨⟨x0, x1, x2, x3, x4⟩, xf, xl⟩ := HS7.out.lw.cells
              have xf0 := xf 0
              have xf1 := xf 1
              have xf2 := xf 2
              have xf3 := xf 3
              have xf4 := xf 4
              clear xf
              go_upto_region 29 with (first | (go_at_call 20; go_must ((with_reducible refine (HDA.out _).mono ?_); rintro e w8 ⟨rfl, hb⟩; have HS8 := hid (HS7.out.later hb); clear hb)) | (go_at_call 21; go_must ((with_reducible refine (HPK.out _ HS8.out.lw).mono ?_); rintro e w9 ⟨rfl, rfl⟩)))
              clear HS7 HDA HPK x0 x1 x2 x3 x4 xf0 xf1 xf2 xf3 xf4 xl
              go_wp2_with fail
              go_roundw
              case rel => exact ⟨d + 1, HDD.out, by go_num, by rw [HC1.out], HS8.out⟩
              case measure => first | (rw [hd1]; exact HM4.out) | exact HM4.out
          · have hdi := q_n4 hd4
            have hd44 : d = 4 := q_eqn hd4 hd
            have HCE := hid (show (cntW u.x.ws d : Int) = (n : Int) from by rw [hd44, HEX.out.1.ws.count, hn])
            clear hd hd4 hd44
            go_wp2_with fail
            go_meet
            case rel => exact ⟨by rw [HCE.out], ⟨_, rfl⟩, HS.out⟩
      case rest =>
      clear HS
      obtain ⟨rfl, ⟨z, rfl⟩, hs⟩ := hcut
      have HS := hid hs
      clear hs
      have HWS := hid (show u.x.ws.length = n from hn)
      rcases HEX.out.1.mem with ⟨he, hm⟩ | ⟨he, hmade, hst, hm⟩
      · have HN0 : n = 0 := by rw [← hn, he]; rfl
        have hck := hm.seq
        have hph := hm.ph
        rw [HN0]
        rw [HN0] at HN8
        clear hm he HWS hn HN0
        obtain ⟨⟨x0, x1, x2, x3, x4⟩, xf, xl⟩ := HS.out.lw.cells
        have xf0 := xf 0
        have xf1 := xf 1
        have xf2 := xf 2
        have xf3 := xf 3
        have xf4 := xf 4
        clear xf
        have HPC := hid (fun V (hv : LwS w g1 ub mb vw u s N V) => (by have := hv.peek 1; rw [hck] at this; exact this : Calls Try.prog 21 #[.pointer (some ⟨mb, 0, none⟩), .int .i64 1] V fun e W2 => e = .returned (.int .i64 0) ∧ V = W2))
        go_upto_region 39 with (first | (go_at_call 23; go_must ((with_reducible refine (seq_calls _).mono ?_); rintro e w8 ⟨rfl, hb⟩; have HS8 := hid (HS.out.later hb); clear hb)) | (go_at_call 21; go_must ((with_reducible refine (HPC.out _ HS8.out.lw).mono ?_); rintro e w9 ⟨rfl, rfl⟩)))
        clear x0 x1 x2 x3 x4 xf0 xf1 xf2 xf3 xf4 xl HPC HS
        obtain ⟨⟨xb, e0⟩, e2, e3, e4, ef, el⟩ := HS8.out.lw.run
        rw [HEX.out.2] at e4
        have ef0 := ef 0
        have ef4 := ef 4
        clear ef
        obtain ⟨⟨x0, x1, x2, x3, x4⟩, xf, xl⟩ := HS8.out.lw.cells
        have xf0 := xf 0
        have xf1 := xf 1
        have xf2 := xf 2
        have xf3 := xf 3
        have xf4 := xf 4
        clear xf
        have hsu := HEX.out.1.sure
        have HDC := hid (fun (z : Later w8) => (by have := (HS8.out.later z.below).lw.decided ((z.below.cell (p := ⟨ub, 0, none⟩) el).trans e0); rw [hsu] at this; exact this : Calls Try.prog 24 #[.pointer (some ⟨xb, 0, none⟩)] z.v fun e W2 => e = .returned (.bool true) ∧ z.v = W2))
        have HPP := hid (fun (z : Later w8) => (by have := (HS8.out.later z.below).lw.peek 13; rw [hph] at this; exact this : Calls Try.prog 21 #[.pointer (some ⟨mb, 0, none⟩), .int .i64 13] z.v fun e W2 => e = .returned (.int .i64 0) ∧ z.v = W2))
        clear hsu hck hph HEX
        refine wp_region_later (by kernel_rfl) (by kernel_rfl) ?_
        repeat (go_big_quiet_step (first | (go_at_call 13; with_reducible exact later_call (HTD.out _)) | (go_at_call 24; with_reducible exact later_same (HDC.out _)) | (go_at_call 25; with_reducible exact later_call (thread_calls _)) | (go_at_call 21; with_reducible exact later_same (HPP.out _))))
        refine wpQuiet_nil ?_
        rintro _ ⟨z, rfl⟩
        have HBZ := hid (HS8.out.later z.below).below
        go_wp2_with fail
        go_ret
        exact ⟨rfl, HBZ.out⟩
      · have HN0 := hid (show 0 < n from by rw [← hn]; exact List.length_pos_iff.2 he)
        have hn0 : ((n : Int) == 0) = false := q_nb HN0.out
        have hn1 : (0 : Int) < (n : Int) := q_n0 HN0.out
        have hn2 : ¬ (n : Int) = 0 := q_nz HN0.out
        have hck := hm.seq
        have hph := hm.ph
        clear hm he
        obtain ⟨⟨xb, e0⟩, e2, e3, e4, ef, el⟩ := HS.out.lw.run
        have ef0 := ef 0
        clear ef
        obtain ⟨⟨x0, x1, x2, x3, x4⟩, xf, xl⟩ := HS.out.lw.cells
        have xf0 := xf 0
        have xf1 := xf 1
        have xf2 := xf 2
        have xf3 := xf 3
        have xf4 := xf 4
        clear xf
        have HMA := hid (by have := HS.out.lw.made e0; rw [hmade] at this; exact this : Calls Try.prog 22 #[.pointer (some ⟨xb, 0, none⟩)] wc fun e W2 => e = .returned (.int .i64 2) ∧ wc = W2)
        have HPC := hid (fun V (hv : LwS w g1 ub mb vw u s N V) => (by have := hv.peek 1; rw [hck] at this; exact this : Calls Try.prog 21 #[.pointer (some ⟨mb, 0, none⟩), .int .i64 1] V fun e W2 => e = .returned (.int .i64 2) ∧ V = W2))
        go_upto_region 39 with (first | (go_at_call 22; go_must ((with_reducible refine HMA.out.mono ?_); rintro e w6 ⟨rfl, rfl⟩)) | (go_at_call 23; go_must ((with_reducible refine (seq_calls _).mono ?_); rintro e w8 ⟨rfl, hb⟩; have HS8 := hid (HS.out.later hb); clear hb)) | (go_at_call 21; go_must ((with_reducible refine (HPC.out _ HS8.out.lw).mono ?_); rintro e w9 ⟨rfl, rfl⟩)))
        clear x0 x1 x2 x3 x4 xf0 xf1 xf2 xf3 xf4 xl HPC HS HMA e0 e2 e3 e4 ef0 el
        obtain ⟨⟨xb, e0⟩, e2, e3, e4, ef, el⟩ := HS8.out.lw.run
        rw [HEX.out.2] at e4
        have ef0 := ef 0
        have ef4 := ef 4
        clear ef
        obtain ⟨⟨x0, x1, x2, x3, x4⟩, xf, xl⟩ := HS8.out.lw.cells
        have xf0 := xf 0
        have xf1 := xf 1
        have xf2 := xf 2
        have xf3 := xf 3
        have xf4 := xf 4
        clear xf
        have hsu := HEX.out.1.sure
        have HDC := hid (fun (z : Later w8) => (by have := (HS8.out.later z.below).lw.decided ((z.below.cell (p := ⟨ub, 0, none⟩) el).trans e0); rw [hsu] at this; exact this : Calls Try.prog 24 #[.pointer (some ⟨xb, 0, none⟩)] z.v fun e W2 => e = .returned (.bool true) ∧ z.v = W2))
        have HMD := hid (fun (z : Later w8) => (by have := (HS8.out.later z.below).lw.made ((z.below.cell (p := ⟨ub, 0, none⟩) el).trans e0); rw [hmade] at this; exact this : Calls Try.prog 22 #[.pointer (some ⟨xb, 0, none⟩)] z.v fun e W2 => e = .returned (.int .i64 2) ∧ z.v = W2))
        have HSD := hid (fun (z : Later w8) => (by have := (HS8.out.later z.below).lw.stamp ((z.below.cell (p := ⟨ub, 0, none⟩) el).trans e0); rw [hst] at this; exact this : Calls Try.prog 26 #[.pointer (some ⟨xb, 0, none⟩)] z.v fun e W2 => e = .returned (.int .i64 2) ∧ z.v = W2))
        have HPP := hid (fun (z : Later w8) => (by have := (HS8.out.later z.below).lw.peek 13; rw [hph] at this; exact this : Calls Try.prog 21 #[.pointer (some ⟨mb, 0, none⟩), .int .i64 13] z.v fun e W2 => e = .returned (.int .i64 0) ∧ z.v = W2))
        clear hsu hck hph HEX hmade hst
        refine wp_region_later (by kernel_rfl) (by kernel_rfl) ?_
        repeat (go_big_quiet_step (first | (go_at_call 13; with_reducible exact later_call (HTD.out _)) | (go_at_call 24; with_reducible exact later_same (HDC.out _)) | (go_at_call 22; with_reducible exact later_same (HMD.out _)) | (go_at_call 26; with_reducible exact later_same (HSD.out _)) | (go_at_call 25; with_reducible exact later_call (thread_calls _)) | (go_at_call 21; with_reducible exact later_same (HPP.out _))))
        refine wpQuiet_nil ?_
        rintro _ ⟨z, rfl⟩
        have HBZ := hid (HS8.out.later z.below).below
        go_wp2_with fail
        go_ret
        exact ⟨rfl, HBZ.out⟩

end Go.Proofs.Ytjfinnjmcnjciaa
