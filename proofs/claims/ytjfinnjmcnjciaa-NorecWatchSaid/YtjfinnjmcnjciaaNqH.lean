/-
  NorecWatch.
-/
import Derived.Test.YtjfinnjmcnjciaaNqG
namespace Go.Proofs.Ytjfinnjmcnjciaa
open Go.RowKit
attribute [local go_sem] Later.cell Later.frozen

set_option maxHeartbeats 40000000 in
set_option maxRecDepth 100000 in
theorem watch_any (a0 : Int) (ad : Option Addr) (len0 cap0 : Nat) (ps : List Tq3) (a2 : Int) (w : World) (hrow : TqRow w ad len0 ps) :
    Calls Try.prog 7 #[.int .i64 a0, .slice ad len0 cap0, .int .i64 a2] w fun e w' => e = .returned (.bool true) ∧ Below w.heap.size w w' := by
  have HM := hid (Map15_any w)
  have HBO := hid (fun W => (show Calls Try.prog 16 #[.agg #[.int .i64 3, .int .i64 1, .int .i64 3, .int .i64 0, .int .i64 4]] W (MadeBoth 34 W) from by have := Both_any mT W mT_ok; rw [mT_size] at this; exact this))
  have HTD := hid (fun W => told15_any W)
  have HROW := hid hrow
  have HLZ := hid hrow.cnt
  have HCK := hid (show (wrap64 (1 + wrap64 ((IntKind.u64.wrap a0).tmod 2))) = 1 ∨ (wrap64 (1 + wrap64 ((IntKind.u64.wrap a0).tmod 2))) = 2 from ck_in a0)
  have HNW := hid (fun (v : Value) (W : World) => (show Calls Try.prog 17 #[.int .i64 1, .int .i64 (wrap64 (1 + wrap64 ((IntKind.u64.wrap a0).tmod 2)))] W (TpNewRet W (rho0 w v) 0 (PT.new mT 1 32 32 1000)) from New15_any 1 (wrap64 (1 + wrap64 ((IntKind.u64.wrap a0).tmod 2))) W (rho0 w v) 0 (by decide)))
  clear hrow
  by_cases h8 : 8 < len0
  · have h8i : (8 : Int) < (len0 : Int) := by omega
    go_enter Try.func7, Try.ntmps7
    go_wp2_with (go_at_call 13; go_must ((with_reducible refine (HTD.out _).mono ?_); rintro e w1 ⟨rfl, hb⟩; have HB := hid hb; clear hb))
    go_ret
    exact ⟨rfl, HB.out⟩
  have h8i : ¬ (8 : Int) < (len0 : Int) := by omega
  have H8 := hid (show len0 ≤ 8 by omega)
  clear h8
  go_enter Try.func7, Try.ntmps7
  go_upto_region 4 with (go_at_call 15; go_must ((with_reducible refine HM.out.mono ?_); rintro e w1 ⟨rfl, hb⟩; have HB1 := hid (bnew hb (.cells #[.int .i64 3, .int .i64 1, .int .i64 3, .int .i64 0, .int .i64 4] 31)); have HMP := hid (heap_alloc_new w1 (.cells #[.int .i64 3, .int .i64 1, .int .i64 3, .int .i64 0, .int .i64 4] 31)); have HG1 := hid hb.size; clear hb))
  refine wp_renamed (fun W => W.heap[w1.heap.size]? = some (.cells #[.int .i64 3, .int .i64 1, .int .i64 3, .int .i64 0, .int .i64 4] 31 (0, 0)) ∧ Below w.heap.size w W) ⟨HMP.out, HB1.out⟩ ?_
  generalize w1.heap.size = g1 at *
  clear HMP HB1 HM
  rintro w1 ⟨hmp, hb⟩
  have HMP := hid hmp
  have HB1 := hid hb
  have x0 := cell_of_blk hmp 0
  have x1 := cell_of_blk hmp 1
  have x2 := cell_of_blk hmp 2
  have x3 := cell_of_blk hmp 3
  have x4 := cell_of_blk hmp 4
  have xf0 := frozen_of_blk hmp 0
  have xf1 := frozen_of_blk hmp 1
  have xf2 := frozen_of_blk hmp 2
  have xf3 := frozen_of_blk hmp 3
  have xf4 := frozen_of_blk hmp 4
  simp only [List.getElem?_toArray, List.getElem?_cons_zero, List.getElem?_cons_succ] at x0 x1 x2 x3 x4
  clear hmp hb
  go_wp2_with (go_at_call 16; go_must ((with_reducible refine (HBO.out _).mono ?_); rintro e w2 ⟨mb, vw, c, vr, rfl, hp, hb⟩; have HP := hid hp; have HB2 := hid hb; clear hp hb))
  clear x0 x1 x2 x3 x4 xf0 xf1 xf2 xf3 xf4 HBO
  go_loopw [10, 11] (fun v i W => ∃ j : Nat, j ≤ len0 ∧ i = .int .i64 j ∧ PlI w2 ps W v j) (fun _ i _ => len0 - (intOf i).toNat)
  case atStart => exact ⟨0, Nat.zero_le _, rfl, PO.nil _ _, bid _⟩
  case round =>
    obtain ⟨j, hj, rfl, hi⟩ := hrel
    have HI := hid hi
    obtain ⟨pa, pc, rfl, _, _⟩ := hi.own.form
    clear hi
    by_cases hlt : j < len0
    · obtain ⟨p, hp⟩ := tq_at (ps := ps) (k := j) (by rw [HLZ.out]; exact hlt)
      obtain ⟨g, off, hbo, hg, hcs⟩ := ((HROW.out.below (bthen (bthen HB1.out HB2.out) HI.out.below))).at (by omega)
      have ht := hcs j p hp
      have HPS := hid (planF_snoc hp)
      have HT8 := hid (show (planF (ps.take j)).length ≤ 900 by rw [planF_len, List.length_take]; have := H8.out; omega)
      obtain ⟨p1, p2, p3⟩ := p
      have n1 : (0 : Int) ≤ (j : Int) := by omega
      have n2 : (j : Int) < (len0 : Int) := by omega
      subst hbo
      have hb5 := bdrew (bid wr)
      have HAC := hid (show PbCells g (off + j * 3) ⟨p1, p2, p3⟩ wr.drew from ⟨(hb5.cell (p := ⟨g, _, none⟩) hg).trans ht.c0, (hb5.cell (p := ⟨g, _, none⟩) hg).trans ht.c1, (hb5.cell (p := ⟨g, _, none⟩) hg).trans ht.c2⟩)
      obtain ⟨v3, w3, hr3, ho3, hb3⟩ := append_op_run 37 (HI.out.own.below hb5) (bthen HI.out.below hb5).size (kF p1) (aF p2) p3 (op3 ⟨p1, p2, p3⟩) (op3_kind _) (op3_at _) rfl HT8.out
      obtain ⟨va3, vc3, rfl, _, _⟩ := ho3.form
      have HO3 := hid ho3
      have HB3 := hid ((bthen HI.out.below hb5).trans hb3)
      generalize (planF (ps.take j)).length = pn at *
      generalize (planF (ps.take j) ++ [op3 ⟨p1, p2, p3⟩]).length = n3 at *
      clear hcs ht hp ho3 hb3 hb5
      generalize hw5 : wr.drew = w5 at *
      have hne1 : Nonempty (Sat (PbCells g (off + j * 3) ⟨p1, p2, p3⟩)) := ⟨⟨_, HAC.out⟩⟩
      have hne2 : Nonempty (Sat (fun _ => True)) := ⟨⟨w, trivial⟩⟩
      have y0 := fun (y : Sat (PbCells g (off + j * 3) ⟨p1, p2, p3⟩)) => y.p.1
      have y1 := fun (y : Sat (PbCells g (off + j * 3) ⟨p1, p2, p3⟩)) => y.p.2.1
      have y2 := fun (y : Sat (PbCells g (off + j * 3) ⟨p1, p2, p3⟩)) => y.p.2.2
      go_wp2_with fail
      refine wp_region_staged (PbW w5 (w5.alloc (.cells #[.int .i64 (kF p1), .int .i64 (aF p2), .int .i64 p3] 40)) w3) (by kernel_rfl) (by kernel_rfl) (fun L hL => by unfold PbW; rw [hL, hL]; exact hw5) ?_
      refine wpS_plain (fun _ => True) (fun _ _ _ _ _ => trivial) (fun _ _ h => h) rfl rfl ?_
      intro KK hKK
      go_big_quiet_op
      go_big_quiet_on
      refine wpS_plain (fun _ => True) (fun _ _ _ _ _ => trivial) (fun _ _ h => h) rfl rfl ?_
      intro KK hKK
      go_big_quiet_op
      go_big_quiet_on
      refine wpS_plain (fun _ => True) (fun _ _ _ _ _ => trivial) (fun _ _ h => h) rfl rfl ?_
      intro KK hKK
      go_big_quiet_op
      go_big_quiet_on
      refine wpS_plain (fun _ => True) (fun _ _ _ _ _ => trivial) (fun _ _ h => h) rfl rfl ?_
      intro KK hKK
      go_big_quiet_op
      go_big_quiet_on
      refine wpS_plain (fun _ => True) (fun _ _ _ _ _ => trivial) (fun _ _ h => h) rfl rfl ?_
      intro KK hKK
      go_big_quiet_op
      go_big_quiet_on
      refine wpS_plain (PbCells g (off + j * 3) ⟨p1, p2, p3⟩) (fun L W hL hcl hd => by have h6 := hcl.no hL (j := 6) (by kernel_rfl); have h7 := hcl.no h6 (j := 7) (by kernel_rfl); have h8 := hcl.no h7 (j := 8) (by kernel_rfl); have h22 := hcl.no h8 (j := 22) (by kernel_rfl); have h23 := hcl.no h22 (j := 23) (by kernel_rfl); have h24 := hcl.no h23 (j := 24) (by kernel_rfl); rw [PbW.early hd h23 h24]; exact HAC.out) (fun _ _ h => h) rfl rfl ?_
      intro KK hKK
      go_big_quiet_op
      go_big_quiet_on
      refine wpS_plain (fun _ => True) (fun _ _ _ _ _ => trivial) (fun _ _ h => h) rfl rfl ?_
      intro KK hKK
      go_big_quiet_op
      go_big_quiet_on
      refine wpS_plain (fun _ => True) (fun _ _ _ _ _ => trivial) (fun _ _ h => h) rfl rfl ?_
      intro KK hKK
      go_big_quiet_op
      go_big_quiet_on
      refine wpS_plain (fun _ => True) (fun _ _ _ _ _ => trivial) (fun _ _ h => h) rfl rfl ?_
      intro KK hKK
      go_big_quiet_op
      go_big_quiet_on
      refine wpS_plain (fun _ => True) (fun _ _ _ _ _ => trivial) (fun _ _ h => h) rfl rfl ?_
      intro KK hKK
      go_big_quiet_op
      go_big_quiet_on
      refine wpS_plain (fun _ => True) (fun _ _ _ _ _ => trivial) (fun _ _ h => h) rfl rfl ?_
      intro KK hKK
      go_big_quiet_op
      go_big_quiet_on
      refine wpS_plain (fun _ => True) (fun _ _ _ _ _ => trivial) (fun _ _ h => h) rfl rfl ?_
      intro KK hKK
      go_big_quiet_op
      go_big_quiet_on
      refine wpS_plain (fun _ => True) (fun _ _ _ _ _ => trivial) (fun _ _ h => h) rfl rfl ?_
      intro KK hKK
      go_big_quiet_op
      go_big_quiet_on
      refine wpS_plain (PbCells g (off + j * 3) ⟨p1, p2, p3⟩) (fun L W hL hcl hd => by have h14 := hcl.no hL (j := 14) (by kernel_rfl); have h15 := hcl.no h14 (j := 15) (by kernel_rfl); have h16 := hcl.no h15 (j := 16) (by kernel_rfl); have h22 := hcl.no h16 (j := 22) (by kernel_rfl); have h23 := hcl.no h22 (j := 23) (by kernel_rfl); have h24 := hcl.no h23 (j := 24) (by kernel_rfl); rw [PbW.early hd h23 h24]; exact HAC.out) (fun _ _ h => h) rfl rfl ?_
      intro KK hKK
      go_big_quiet_op
      go_big_quiet_on
      refine wpS_plain (fun _ => True) (fun _ _ _ _ _ => trivial) (fun _ _ h => h) rfl rfl ?_
      intro KK hKK
      go_big_quiet_op
      go_big_quiet_on
      refine wpS_plain (fun _ => True) (fun _ _ _ _ _ => trivial) (fun _ _ h => h) rfl rfl ?_
      intro KK hKK
      go_big_quiet_op
      go_big_quiet_on
      refine wpS_plain (fun _ => True) (fun _ _ _ _ _ => trivial) (fun _ _ h => h) rfl rfl ?_
      intro KK hKK
      go_big_quiet_op
      go_big_quiet_on
      refine wpS_plain (fun _ => True) (fun _ _ _ _ _ => trivial) (fun _ _ h => h) rfl rfl ?_
      intro KK hKK
      go_big_quiet_op
      go_big_quiet_on
      refine wpS_plain (fun _ => True) (fun _ _ _ _ _ => trivial) (fun _ _ h => h) rfl rfl ?_
      intro KK hKK
      go_big_quiet_op
      go_big_quiet_on
      refine wpS_plain (fun _ => True) (fun _ _ _ _ _ => trivial) (fun _ _ h => h) rfl rfl ?_
      intro KK hKK
      go_big_quiet_op
      go_big_quiet_on
      refine wpS_plain (fun _ => True) (fun _ _ _ _ _ => trivial) (fun _ _ h => h) rfl rfl ?_
      intro KK hKK
      go_big_quiet_op
      go_big_quiet_on
      refine wpS_plain (PbCells g (off + j * 3) ⟨p1, p2, p3⟩) (fun L W hL hcl hd => by have h22 := hcl.no hL (j := 22) (by kernel_rfl); have h23 := hcl.no h22 (j := 23) (by kernel_rfl); have h24 := hcl.no h23 (j := 24) (by kernel_rfl); rw [PbW.early hd h23 h24]; exact HAC.out) (fun _ _ h => h) rfl rfl ?_
      intro KK hKK
      go_big_quiet_op
      go_big_quiet_on
      refine wpS_value (.agg #[.int .i64 (kF p1), .int .i64 (aF p2), .int .i64 p3]) rfl (fun _ => by go_simp; exact ⟨rfl, rfl⟩) (fun _ _ h => h) ?_
      (try simp only [Act.put, List.getElem_toArray, List.getElem_cons_zero, List.getElem_cons_succ, List.setIfInBounds_toArray, List.set_cons_zero, List.set_cons_succ])
      refine ⟨.slice (some ⟨w5.heap.size, 0, none⟩) 1 1, .inl ⟨rfl, fun L W hL hcl hd => ?_⟩, ?_⟩
      · have h24 := hcl.no hL (j := 24) (by kernel_rfl)
        obtain rfl : W = w5 := PbW.early hd hL h24
        go_simp
        refine ⟨rfl, ?_⟩
        unfold PbW
        rw [bump_ne _ (by decide), bump_at, h24]
        rfl
      (try simp only [Act.put, List.getElem_toArray, List.getElem_cons_zero, List.getElem_cons_succ, List.setIfInBounds_toArray, List.set_cons_zero, List.set_cons_succ])
      refine ⟨.slice va3 n3 vc3, .inl ⟨rfl, fun L W hL hcl hd => ?_⟩, ?_⟩
      · have h23 := hcl.dep (i := 23) (by kernel_rfl)
        obtain rfl : W = w5.alloc (.cells #[.int .i64 (kF p1), .int .i64 (aF p2), .int .i64 p3] 40) := by unfold PbW at hd; rw [hL, h23] at hd; exact hd
        refine gUpon_appendO (.tmp 38) (.tmp 61) rfl rfl rfl hr3 ?_
        unfold PbW
        rw [bump_at]
        rfl
      (try simp only [Act.put, List.getElem_toArray, List.getElem_cons_zero, List.getElem_cons_succ, List.setIfInBounds_toArray, List.set_cons_zero, List.set_cons_succ])
      refine wpS_plain (fun _ => True) (fun _ _ _ _ _ => trivial) (fun _ _ h => h) rfl rfl ?_
      intro KK hKK
      go_big_quiet_op
      go_big_quiet_on
      intro L W hall hd
      have HWE := hid (show W = w3 from by unfold PbW at hd; rw [hall 24 (by decide)] at hd; exact hd)
      clear hd hall y0 y1 y2 hne1 hne2
      go_wp2_with fail
      go_roundw
      case rel => exact ⟨j + 1, by omega, by go_num, by rw [HPS.out, HWE.out]; exact HO3.out, by rw [HWE.out]; exact HB3.out⟩
      case measure => simp [intOf]; omega
    · obtain rfl : j = len0 := by omega
      have hpo := HI.out.own
      rw [show ps.take j = ps from by rw [← HLZ.out]; exact List.take_length] at hpo
      have HPO := hid hpo
      have HB3 := hid HI.out.below
      rw [show ps.take j = ps from by rw [← HLZ.out]; exact List.take_length]
      have HPL8 := hid (show (planF ps).length ≤ 8 by rw [planF_len, HLZ.out]; exact H8.out)
      clear hpo HI
      generalize hpn : (planF ps).length = pn at *
      go_upto_region 13 with (go_at_call 17; go_must ((with_reducible refine (HNW.out (.slice pa pn pc) _).mono ?_); rintro e w4 ⟨xb, ρ', l, rfl, _, hg, hx, hb⟩; have HS := hid (LwS.start (ck := wrap64 (1 + wrap64 ((IntKind.u64.wrap a0).tmod 2))) HG1.out HMP.out HB1.out HP.out HB2.out HPO.out HB3.out (by have := HPL8.out; omega) hg hx hb); clear hg hx hb))
      clear HMP HB1 HP HB2 HPO HB3 HNW
      refine wp_renamed (LwS w g1 w4.heap.size mb vw (RU.new 1 (wrap64 (1 + wrap64 ((IntKind.u64.wrap a0).tmod 2))) (planF ps)) S0 0) HS.out ?_
      generalize w4.heap.size = ub
      clear HS
      intro W hs
      have HS := hid hs
      clear hs
      have HPL := hid (show (planF ps).length ≤ 8 ∧ ∀ o ∈ planF ps, o.2.1 < 4 from ⟨by have := HPL8.out; omega, planF_at ps⟩)
      generalize (wrap64 (1 + wrap64 ((IntKind.u64.wrap a0).tmod 2))) = ck at *
      obtain ⟨K, hK, HKE⟩ := mod_hid a2 60 60 rfl (by decide) (by decide)
      have HNX := hid (HS.out.next (RU.new_pick (planF ps) S0_mem) (Nat.zero_le _))
      obtain ⟨u, s, hq, hwt, hun, hmu⟩ := watch_start (pl := planF ps) HCK.out HPL.out
      rw [hq] at HNX
      have HUN := hid hun
      have HMU := hid hmu
      have HWT := hid hwt
      clear hun hmu hwt hq
      obtain ⟨⟨xb, e0⟩, e2, e3, e4, ef, el⟩ := HS.out.run
      have ef0 := ef 0
      clear ef
      obtain ⟨⟨x0, x1, x2, x3, x4⟩, xf, xl⟩ := HS.out.cells
      have xf0 := xf 0
      have xf1 := xf 1
      have xf2 := xf 2
      have xf3 := xf 3
      have xf4 := xf 4
      clear xf
      go_upto_region 16 with (go_at_call 18; go_must ((with_reducible refine HNX.out.mono ?_); rintro e w5 ⟨rfl, hs⟩; have HS5 := hid hs; clear hs))
      clear HNX HS e0 e2 e3 e4 ef0 el x0 x1 x2 x3 x4 xf0 xf1 xf2 xf3 xf4 xl
      obtain ⟨⟨x0, x1, x2, x3, x4⟩, xf, xl⟩ := HS5.out.cells
      have xf0 := xf 0
      have xf1 := xf 1
      have xf2 := xf 2
      have xf3 := xf 3
      have xf4 := xf 4
      clear xf
      go_upto_region 17 with (go_at_call 32; go_must ((with_reducible refine (lock_calls _).mono ?_); rintro e w6 ⟨rfl, hb⟩; have HS6 := hid (HS5.out.later hb); clear hb))
      clear HS5 x0 x1 x2 x3 x4 xf0 xf1 xf2 xf3 xf4 xl
      obtain ⟨⟨xb, e0⟩, e2, e3, e4, ef, el⟩ := HS6.out.run
      have ef0 := ef 0
      clear ef
      have HWA := hid (HS6.out.watch e0 9 0 HWT.out)
      go_upto_block 2 with (go_at_call 33; go_must ((with_reducible refine HWA.out.mono ?_); rintro e w7 ⟨rfl, hs⟩; have HS7 := hid hs; clear hs))
      clear HWA HS6 e0 e2 e3 e4 ef0 el HWT
      go_cut [14] (fun v W => (∃ z : Int, v = .int .i64 z) ∧ ∃ u s N, N ≤ 700 ∧ UnI ck [(9, 0)] (planF ps) s u ∧ muS u ≤ 166 ∧ LwS w g1 ub mb vw u s N W)
      case first =>
        go_wp2_with fail
        go_loopw [14] (fun y W => ∃ j : Nat, j ≤ 60 ∧ y = .int .i64 (j : Int) ∧ ∃ u s N, N ≤ 10 + 10 * j ∧ UnI ck [(9, 0)] (planF ps) s u ∧ muS u ≤ 166 ∧ LwS w g1 ub mb vw u s N W) (fun y _ => 60 - (intOf y).toNat)
        case atStart => exact ⟨0, Nat.zero_le _, rfl, _, _, 10, Nat.le_refl _, HUN.out, HMU.out, HS7.out⟩
        case round =>
          clear HUN HMU HS7
          obtain ⟨j, hj, rfl, u, s, N, hN, hu, hm, hs⟩ := hrel
          have HU := hid hu
          have HS := hid hs
          have HM := hid hm
          clear hu hs hm
          obtain ⟨⟨xb, e0⟩, e2, e3, e4, ef, el⟩ := HS.out.run
          have ef0 := ef 0
          have ef4 := ef 4
          clear ef
          obtain ⟨⟨x0, x1, x2, x3, x4⟩, xf, xl⟩ := HS.out.cells
          have xf0 := xf 0
          have xf1 := xf 1
          have xf2 := xf 2
          have xf3 := xf 3
          have xf4 := xf 4
          clear xf
          have hj1 : wrap64 ((j : Int) + 1) = ((j + 1 : Nat) : Int) := q_wj hj
          by_cases hgo : j < K ∧ u.fin = 0
          · obtain ⟨hjk, hf⟩ := hgo
            have hjk1 : (j : Int) < (K : Int) := Int.ofNat_lt.2 hjk
            rw [hf] at e4
            have hN8 : N ≤ 80000 := q_le 10 60 hN hj (by decide)
            have HNX := hid (HS.out.next (HU.out.pick hf) hN8)
            have HUN := hid (HU.out.next (.inr rfl) HCK.out HPL.out hf)
            have HMN := hid (Nat.le_trans (HU.out.mu HCK.out hf) HM.out)
            have HJ := hid hjk
            have HNN := hid hN
            clear hf hN hN8
            have hKe := HKE.out
            go_upto_region 21 with fail
            clear hKe e0 e2 e3 e4 ef0 ef4 el hjk1 h8i
            go_upto_region 20 with (go_at_call 18; go_must ((with_reducible refine HNX.out.mono ?_); rintro e w7 ⟨rfl, hs⟩; have HS7 := hid hs; clear hs))
            clear x0 x1 x2 x3 x4 xf0 xf1 xf2 xf3 xf4 xl HS HU HM
            go_wp2_with fail
            have hj60 : j + 1 ≤ 60 := Nat.le_trans HJ.out (Nat.le_of_lt hK)
            have hN10 : N + 10 ≤ 10 + 10 * (j + 1) := q_ten 10 HNN.out
            have HM6 := hid (q_m60 (Nat.lt_of_lt_of_le HJ.out (Nat.le_of_lt hK)))
            go_roundw
            case rel => exact ⟨j + 1, hj60, by go_num, _, _, N + 10, hN10, HUN.out, HMN.out, HS7.out⟩
            case measure => first | (rw [hj1]; exact HM6.out) | exact HM6.out
          · have hKe := HKE.out
            have HN7 := hid (show N ≤ 700 from q_le 10 60 hN hj (by decide))
            cases hdd : decide (j < K) with
            | true =>
              have hjk : j < K := of_decide_eq_true hdd
              have hf : ¬ u.fin = 0 := fun h => hgo ⟨hjk, h⟩
              have hjk1 : (j : Int) < (K : Int) := Int.ofNat_lt.2 hjk
              rw [HU.out.fin1 hf] at e4
              clear hgo hdd x0 x1 x2 x3 x4 xf0 xf1 xf2 xf3 xf4 xl e2 e3 hf
              go_wp2_with fail
              go_meet
              case rel => exact ⟨⟨_, rfl⟩, u, s, N, HN7.out, HU.out, HM.out, HS.out⟩
            | false =>
              have hjk : ¬ j < K := of_decide_eq_false hdd
              have hjk1 : ¬ (j : Int) < (K : Int) := fun h => hjk (Int.ofNat_lt.1 h)
              clear hgo hdd x0 x1 x2 x3 x4 xf0 xf1 xf2 xf3 xf4 xl e0 e2 e3 e4 ef0 ef4 el
              go_wp2_with fail
              go_meet
              case rel => exact ⟨⟨_, rfl⟩, u, s, N, HN7.out, HU.out, HM.out, HS.out⟩
      case rest =>
      clear HUN HMU HS7
      obtain ⟨⟨z, rfl⟩, u, s, N, hN, hu, hm, hs⟩ := hcut
      have HS := hid hs
      obtain ⟨b, hb⟩ : ∃ b, u.x.sure = b := ⟨_, rfl⟩
      have HWT := hid (show WtI ck b (s.stored 9 1) u from by rw [← hb]; exact hu.turned)
      have HM := hid hm
      have HN := hid hN
      clear hu hm hN hs
      obtain ⟨⟨xb, e0⟩, e2, e3, e4, ef, el⟩ := HS.out.run
      have ef0 := ef 0
      clear ef
      have HDC := hid (HS.out.decided e0)
      rw [hb] at HDC
      clear hb
      go_upto_region 23 with (go_at_call 24; go_must ((with_reducible refine HDC.out.mono ?_); rintro e w6 ⟨rfl, rfl⟩))
      clear HDC e0 e2 e3 e4 ef0 el
      have HST := hid (HS.out.store 9 1)
      go_upto_block 4 with (go_at_call 34; go_must ((with_reducible refine HST.out.mono ?_); rintro e w7 ⟨rfl, hs⟩; have HS7 := hid hs; clear hs))
      clear HST HS
      generalize s.stored 9 1 = s at *
      go_cut [16] (fun v W => (∃ z : Int, v = .int .i64 z) ∧ ∃ u s N, N ≤ 80000 ∧ WtI ck b s u ∧ u.fin ≠ 0 ∧ LwS w g1 ub mb vw u s N W)
      case first =>
        go_wp2_with fail
        go_loopw [16] (fun y W => ∃ j : Nat, j ≤ 200 ∧ y = .int .i64 (j : Int) ∧ ∃ u s N, N ≤ 700 + 10 * j ∧ WtI ck b s u ∧ (u.fin = 0 → muS u + j ≤ 200) ∧ LwS w g1 ub mb vw u s N W) (fun y _ => 200 - (intOf y).toNat)
        case atStart => exact ⟨0, Nat.zero_le _, rfl, _, _, N, HN.out, HWT.out, (fun _ => Nat.le_trans HM.out (by decide)), HS7.out⟩
        case round =>
          clear HWT HM HN HS7
          obtain ⟨j, hj, rfl, u, s, N, hN, hu, hm, hs⟩ := hrel
          have HU := hid hu
          have HS := hid hs
          have HM := hid hm
          clear hu hs hm
          obtain ⟨⟨xb, e0⟩, e2, e3, e4, ef, el⟩ := HS.out.run
          have ef0 := ef 0
          have ef4 := ef 4
          clear ef
          obtain ⟨⟨x0, x1, x2, x3, x4⟩, xf, xl⟩ := HS.out.cells
          have xf0 := xf 0
          have xf1 := xf 1
          have xf2 := xf 2
          have xf3 := xf 3
          have xf4 := xf 4
          clear xf
          have hj1 : wrap64 ((j : Int) + 1) = ((j + 1 : Nat) : Int) := q_200 hj
          have HN7 := hid (show N ≤ 80000 from q_le 700 200 hN hj (by decide))
          by_cases hgo : j < 200 ∧ u.fin = 0
          · obtain ⟨hjk, hf⟩ := hgo
            have hjk1 : (j : Int) < 200 := q_i200 hjk
            rw [hf] at e4
            have HNX := hid (HS.out.next (HU.out.pick hf) HN7.out)
            have HUN := hid (HU.out.next HCK.out hf)
            have HMN := hid (show (nextR s u).1.fin = 0 → muS (nextR s u).1 + (j + 1) ≤ 200 from fun h0 => q_mu1 (HUN.out.2.2 h0) (HM.out hf))
            have HN1 := hid (q_ten 700 hN)
            have HJ1 := hid (Nat.succ_le_of_lt hjk)
            have HM2 := hid (q_m200 hjk)
            clear hf hN hj hjk
            go_upto_region 27 with fail
            clear e0 e2 e3 e4 ef0 ef4 el hjk1 h8i
            go_upto_region 26 with (go_at_call 18; go_must ((with_reducible refine HNX.out.mono ?_); rintro e w7 ⟨rfl, hs⟩; have HS7 := hid hs; clear hs))
            clear x0 x1 x2 x3 x4 xf0 xf1 xf2 xf3 xf4 xl HS HU HM
            go_wp2_with fail
            go_roundw
            case rel => exact ⟨j + 1, HJ1.out, by go_num, _, _, N + 10, HN1.out, HUN.out.1, HMN.out, HS7.out⟩
            case measure => first | (rw [hj1]; exact HM2.out) | exact HM2.out
          · by_cases hjk : j < 200
            · have hf : ¬ u.fin = 0 := fun h => hgo ⟨hjk, h⟩
              have HF := hid hf
              have hjk1 : (j : Int) < 200 := q_i200 hjk
              clear hgo x0 x1 x2 x3 x4 xf0 xf1 xf2 xf3 xf4 xl e2 e3 hN hj hjk
              rcases HU.out.ends hf with ⟨_, _, hfin⟩ | ⟨_, _, hfin, _⟩
              · rw [hfin] at e4
                clear hf hfin
                go_wp2_with fail
                go_meet
                case rel => exact ⟨⟨_, rfl⟩, u, s, N, HN7.out, HU.out, HF.out, HS.out⟩
              · rw [hfin] at e4
                clear hf hfin
                go_wp2_with fail
                go_meet
                case rel => exact ⟨⟨_, rfl⟩, u, s, N, HN7.out, HU.out, HF.out, HS.out⟩
            · have HF := hid (show u.fin ≠ 0 from fun h0 => HU.out.over HCK.out (q_muo (HM.out h0) hjk) h0)
              have hjk1 : ¬ (j : Int) < 200 := q_ni200 hjk
              clear hgo x0 x1 x2 x3 x4 xf0 xf1 xf2 xf3 xf4 xl e0 e2 e3 e4 ef0 ef4 el hN hj hjk
              go_wp2_with fail
              go_meet
              case rel => exact ⟨⟨_, rfl⟩, u, s, N, HN7.out, HU.out, HF.out, HS.out⟩
      case rest =>
      clear HWT HM HN HS7
      obtain ⟨⟨z, rfl⟩, u, s, N, hN, hu, hf, hs⟩ := hcut
      have HS := hid hs
      have HU := hid (hu.ends hf)
      clear hu hf hs hN
      obtain ⟨⟨xb, e0⟩, e2, e3, e4, ef, el⟩ := HS.out.run
      have ef0 := ef 0
      clear ef
      have HSE := hid (HS.out.sets e0)
      go_upto_region 29 with (go_at_call 19; go_must ((with_reducible refine HSE.out.mono ?_); rintro e w7 ⟨va, vb, rfl, _, hwl, hb⟩; have HB7 := hid hb; have HWL := hid hwl; clear hb hwl))
      clear HSE e0 e2 e3 e4 ef0 el
      have HS7 := hid (HS.out.later HB7.out)
      clear HS HB7
      obtain ⟨wa, wcp, rfl, hrow⟩ := HWL.out.form
      have HROW2 := hid hrow
      clear hrow HWL
      have HN8 := hid (show u.x.ws.length ≤ 8 from by
        rcases HU.out with ⟨_, h, _⟩ | ⟨_, _, _, h⟩
        · exact h.ws.len
        · exact h.len)
      obtain ⟨n, hn⟩ : ∃ n, u.x.ws.length = n := ⟨_, rfl⟩
      rw [hn] at HROW2 HN8
      rw [hn]
      rcases HU.out with ⟨rfl, hex, hfin⟩ | ⟨rfl, hdx, hfin, hwsok⟩
      · have HPV := hid (fun (i : Nat) (p : Wd) (h : u.x.ws[i]? = some p) => hex.has h)
        clear hex HU
        go_upto_block 6 with fail
        go_cut [19] (fun v W => (∃ z : Int, v = .int .i64 z) ∧ Below w7.heap.size w7 W)
        case first =>
          go_wp2_with fail
          go_loopw [19] (fun y W => ∃ d : Nat, d ≤ n ∧ y = .int .i64 (d : Int) ∧ Below w7.heap.size w7 W) (fun y _ => n - (intOf y).toNat)
          case atStart => exact ⟨0, Nat.zero_le _, rfl, bid _⟩
          case round =>
            obtain ⟨d, hd, rfl, hb⟩ := hrel
            have HB := hid hb
            clear hb
            by_cases hlt : d < n
            · obtain ⟨p, hp⟩ := word_at (ws := u.x.ws) (k := d) (by rw [hn]; exact hlt)
              obtain ⟨g, off, rfl, hg, hcs⟩ := (HROW2.out.below HB.out).at (q_pos hlt)
              obtain ⟨c0, c1⟩ := hcs d p hp
              have hv := HPV.out d p hp
              obtain ⟨pa, pv⟩ := p
              have n1 : (0 : Int) ≤ (d : Int) := q_0i d
              have n2 : (d : Int) < (n : Int) := q_in hlt
              have hd1 := q_dn hlt HN8.out
              have HMD := hid (q_mn hlt)
              have HD1 := hid (Nat.succ_le_of_lt hlt)
              have HPK := hid (fun (z : Later wr) => (by have := (HS7.out.later (bthen HB.out z.below)).peek pa; rw [show s.vAt pa = pv from hv] at this; exact this : Calls Try.prog 21 #[.pointer (some ⟨mb, 0, none⟩), .int .i64 pa] z.v fun e W2 => e = .returned (.int .i64 pv) ∧ z.v = W2))
              clear hcs hv hp hd hlt
              go_upto_region 32 with fail
              refine wp_region_later (by kernel_rfl) (by kernel_rfl) ?_
              repeat (go_big_quiet_step (first | (go_at_call 21; with_reducible exact later_same (HPK.out _))))
              refine wpQuiet_nil ?_
              rintro _ ⟨z, rfl⟩
              have HBZ := hid (bthen HB.out z.below)
              clear HPK c0 c1 HB
              go_wp2_with fail
              go_roundw
              case rel => exact ⟨d + 1, HD1.out, by go_num, HBZ.out⟩
              case measure => first | (rw [hd1]; exact HMD.out) | exact HMD.out
            · have hnl : ¬ (d : Int) < (n : Int) := q_nin hlt
              clear hlt hd
              go_wp2_with fail
              go_meet
              case rel => exact ⟨⟨_, rfl⟩, HB.out⟩
        case rest =>
        obtain ⟨⟨z, rfl⟩, hb⟩ := hcut
        have HS8 := hid (HS7.out.later hb)
        clear hb HS7 HPV HROW2
        obtain ⟨_, e2, e3, e4, ef, el⟩ := HS8.out.run
        have ef4 := ef 4
        clear ef
        rw [hfin] at e4
        go_wp2_with (go_at_call 13; go_must ((with_reducible refine (HTD.out _).mono ?_); rintro e w8 ⟨rfl, hb⟩; have HS9 := hid (HS8.out.later hb); have e48 := (hb.cell (p := ⟨ub, 4, none⟩) el).trans e4; have ef48 := (hb.frozen (p := ⟨ub, 4, none⟩) el).trans ef4; clear hb))
        go_ret
        exact ⟨rfl, HS9.out.below⟩
      · have HPV := hid (fun (i : Nat) (p : Wd) (h : u.x.ws[i]? = some p) => hdx.has hwsok h)
        have HCV := hid hdx.cause
        clear hdx HU hwsok
        go_upto_block 6 with fail
        go_cut [19] (fun v W => (∃ z : Int, v = .int .i64 z) ∧ Below w7.heap.size w7 W)
        case first =>
          go_wp2_with fail
          go_loopw [19] (fun y W => ∃ d : Nat, d ≤ n ∧ y = .int .i64 (d : Int) ∧ Below w7.heap.size w7 W) (fun y _ => n - (intOf y).toNat)
          case atStart => exact ⟨0, Nat.zero_le _, rfl, bid _⟩
          case round =>
            obtain ⟨d, hd, rfl, hb⟩ := hrel
            have HB := hid hb
            clear hb
            by_cases hlt : d < n
            · obtain ⟨p, hp⟩ := word_at (ws := u.x.ws) (k := d) (by rw [hn]; exact hlt)
              obtain ⟨g, off, rfl, hg, hcs⟩ := (HROW2.out.below HB.out).at (q_pos hlt)
              obtain ⟨c0, c1⟩ := hcs d p hp
              have hv := HPV.out d p hp
              obtain ⟨pa, pv⟩ := p
              have n1 : (0 : Int) ≤ (d : Int) := q_0i d
              have n2 : (d : Int) < (n : Int) := q_in hlt
              have hd1 := q_dn hlt HN8.out
              have HMD := hid (q_mn hlt)
              have HD1 := hid (Nat.succ_le_of_lt hlt)
              have HPK := hid (fun (z : Later wr) => (by have := (HS7.out.later (bthen HB.out z.below)).peek pa; rw [show s.vAt pa = 0 from hv] at this; exact this : Calls Try.prog 21 #[.pointer (some ⟨mb, 0, none⟩), .int .i64 pa] z.v fun e W2 => e = .returned (.int .i64 0) ∧ z.v = W2))
              clear hcs hv hp hd hlt
              go_upto_region 32 with fail
              by_cases hz : pv = 0
              · subst hz
                refine wp_region_later (by kernel_rfl) (by kernel_rfl) ?_
                repeat (go_big_quiet_step (first | (go_at_call 21; with_reducible exact later_same (HPK.out _))))
                refine wpQuiet_nil ?_
                rintro _ ⟨z, rfl⟩
                have HBZ := hid (bthen HB.out z.below)
                clear HPK c0 c1 HB
                go_wp2_with fail
                go_roundw
                case rel => exact ⟨d + 1, HD1.out, by go_num, HBZ.out⟩
                case measure => first | (rw [hd1]; exact HMD.out) | exact HMD.out
              · have hz1 : ((0 : Int) == pv) = false := by rw [beq_eq_false_iff_ne]; exact fun h => hz h.symm
                have hz2 : (pv == (0 : Int)) = false := by rw [beq_eq_false_iff_ne]; exact hz
                have hz3 : ¬ (0 : Int) = pv := fun h => hz h.symm
                refine wp_region_later (by kernel_rfl) (by kernel_rfl) ?_
                repeat (go_big_quiet_step (first | (go_at_call 21; with_reducible exact later_same (HPK.out _))))
                refine wpQuiet_nil ?_
                rintro _ ⟨z, rfl⟩
                have HBZ := hid (bthen HB.out z.below)
                clear HPK c0 c1 HB
                go_wp2_with fail
                go_roundw
                case rel => exact ⟨d + 1, HD1.out, by go_num, HBZ.out⟩
                case measure => first | (rw [hd1]; exact HMD.out) | exact HMD.out
            · have hnl : ¬ (d : Int) < (n : Int) := q_nin hlt
              clear hlt hd
              go_wp2_with fail
              go_meet
              case rel => exact ⟨⟨_, rfl⟩, HB.out⟩
        case rest =>
        obtain ⟨⟨z, rfl⟩, hb⟩ := hcut
        have HS8 := hid (HS7.out.later hb)
        clear hb HS7 HPV HROW2
        obtain ⟨⟨xb, e0⟩, e2, e3, e4, ef, el⟩ := HS8.out.run
        have ef0 := ef 0
        have ef4 := ef 4
        clear ef
        rw [hfin] at e4
        have HCA := hid (fun V (hv : LwS w g1 ub mb vw u s N V) (hc : V.cell? ⟨ub, 0, none⟩ = some (.pointer (some ⟨xb, 0, none⟩))) => (by have := hv.cause hc; rw [HCV.out] at this; exact this : Calls Try.prog 30 #[.pointer (some ⟨xb, 0, none⟩)] V fun e W2 => e = .returned (.int .i64 3) ∧ V = W2))
        go_wp2_with (first | (go_at_call 13; go_must ((with_reducible refine (HTD.out _).mono ?_); rintro e w8 ⟨rfl, hb⟩; have HS9 := hid (HS8.out.later hb); have e08 := (hb.cell (p := ⟨ub, 0, none⟩) el).trans e0; have ef08 := (hb.frozen (p := ⟨ub, 0, none⟩) el).trans ef0; have e48 := (hb.cell (p := ⟨ub, 4, none⟩) el).trans e4; have ef48 := (hb.frozen (p := ⟨ub, 4, none⟩) el).trans ef4; clear hb)) | (go_at_call 30; go_must ((with_reducible refine (HCA.out _ HS9.out e08).mono ?_); rintro e w9 ⟨rfl, rfl⟩)))
        go_ret
        exact ⟨rfl, HS9.out.below⟩

end Go.Proofs.Ytjfinnjmcnjciaa
