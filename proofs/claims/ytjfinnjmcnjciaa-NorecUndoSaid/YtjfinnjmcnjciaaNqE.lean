/-
  NorecUndo.
-/
import Derived.Test.YtjfinnjmcnjciaaNqF
namespace Go.Proofs.Ytjfinnjmcnjciaa
open Go.RowKit
attribute [local go_sem] Later.cell Later.frozen

theorem e_ten {N j : Nat} (h : N ≤ 10 * j) : N + 10 ≤ 10 * (j + 1) := by omega
theorem e_m60 {j : Nat} (h : j < 60) : 60 - (intOf (.int .i64 ((j + 1 : Nat) : Int))).toNat < 60 - (intOf (.int .i64 (j : Int))).toNat := by simp [intOf]; omega
theorem e_nb {n : Nat} (h : 1 ≤ n) : ((n : Int) == 0) = false := by rw [beq_eq_false_iff_ne]; omega
theorem e_nz {n : Nat} (h : 1 ≤ n) : ¬ (n : Int) = 0 := by omega
theorem e_i0 {i n : Nat} (h : i ≤ n + 1) (h2 : n ≤ 8) : i < 100 := by omega
theorem q_p0 {a : Nat} (h : a ≤ 2) : 0 + a ≤ 2 := by omega
theorem q_i2 {j a b : Nat} (h : b < a) (hj : j + a ≤ 2) : (j + 1) + b ≤ 2 := by omega
theorem e_n7 {N : Nat} (h : N ≤ 600) : N + 1 ≤ 700 + 0 := by omega

set_option maxHeartbeats 40000000 in
set_option maxRecDepth 100000 in
theorem undo_any (a0 : Int) (ad : Option Addr) (len0 cap0 : Nat) (ps : List Tq3) (a2 a3 : Int) (w : World) (hrow : TqRow w ad len0 ps) :
    Calls Try.prog 6 #[.int .i64 a0, .slice ad len0 cap0, .int .i64 a2, .int .i64 a3] w fun e w' => e = .returned (.bool true) ∧ Below w.heap.size w w' := by
  have HM := hid (Map15_any w)
  have HBO := hid (fun W => (show Calls Try.prog 16 #[.agg #[.int .i64 3, .int .i64 1, .int .i64 3, .int .i64 0, .int .i64 4]] W (MadeBoth 34 W) from by have := Both_any mT W mT_ok; rw [mT_size] at this; exact this))
  have HTD := hid (fun W => told15_any W)
  have HROW := hid hrow
  have HLZ := hid hrow.cnt
  have HCK := hid (show (wrap64 (1 + wrap64 ((IntKind.u64.wrap a0).tmod 2))) = 1 ∨ (wrap64 (1 + wrap64 ((IntKind.u64.wrap a0).tmod 2))) = 2 from ck_in a0)
  have HNW := hid (fun (v : Value) (W : World) => (show Calls Try.prog 17 #[.int .i64 1, .int .i64 (wrap64 (1 + wrap64 ((IntKind.u64.wrap a0).tmod 2)))] W (TpNewRet W (rho0 w v) 0 (PT.new mT 1 32 32 1000)) from New15_any 1 (wrap64 (1 + wrap64 ((IntKind.u64.wrap a0).tmod 2))) W (rho0 w v) 0 (by decide)))
  clear hrow
  by_cases h8 : 8 < len0
  · have h8i : (8 : Int) < (len0 : Int) := by omega
    go_enter Try.func6, Try.ntmps6
    go_wp2_with (go_at_call 13; go_must ((with_reducible refine (HTD.out _).mono ?_); rintro e w1 ⟨rfl, hb⟩; have HB := hid hb; clear hb))
    go_ret
    exact ⟨rfl, HB.out⟩
  have h8i : ¬ (8 : Int) < (len0 : Int) := by omega
  have H8 := hid (show len0 ≤ 8 by omega)
  clear h8
  go_enter Try.func6, Try.ntmps6
  go_upto_region 4 with (go_at_call 15; go_must ((with_reducible refine HM.out.mono ?_); rintro e w1 ⟨rfl, hb⟩; have HB1 := hid (bnew hb (.cells #[.int .i64 3, .int .i64 1, .int .i64 3, .int .i64 0, .int .i64 4] 31)); have HMP := hid (heap_alloc_new w1 (.cells #[.int .i64 3, .int .i64 1, .int .i64 3, .int .i64 0, .int .i64 4] 31)); have HG1 := hid hb.size; clear hb))
  refine wp_renamed (fun W => W.heap[w1.heap.size]? = some (.cells #[.int .i64 3, .int .i64 1, .int .i64 3, .int .i64 0, .int .i64 4] 31 (0, 0)) ∧ Below w.heap.size w W) ⟨HMP.out, HB1.out⟩ ?_
  generalize w1.heap.size = g1 at *
  clear HMP HB1 HM
  rintro w1 ⟨hmp, hb⟩
  have HMP := hid hmp
  have HB1 := hid hb
  have x0 := cell_of_blk hmp 0
  have x1 := cell_of_blk hmp 1
  have x2 := cell_of_blk hmp 2
  have x3 := cell_of_blk hmp 3
  have x4 := cell_of_blk hmp 4
  have xf0 := frozen_of_blk hmp 0
  have xf1 := frozen_of_blk hmp 1
  have xf2 := frozen_of_blk hmp 2
  have xf3 := frozen_of_blk hmp 3
  have xf4 := frozen_of_blk hmp 4
  simp only [List.getElem?_toArray, List.getElem?_cons_zero, List.getElem?_cons_succ] at x0 x1 x2 x3 x4
  clear hmp hb
  go_wp2_with (go_at_call 16; go_must ((with_reducible refine (HBO.out _).mono ?_); rintro e w2 ⟨mb, vw, c, vr, rfl, hp, hb⟩; have HP := hid hp; have HB2 := hid hb; clear hp hb))
  clear x0 x1 x2 x3 x4 xf0 xf1 xf2 xf3 xf4 HBO
  go_loopw [12, 13] (fun v i W => ∃ j : Nat, j ≤ len0 ∧ i = .int .i64 j ∧ PlI w2 ps W v j) (fun _ i _ => len0 - (intOf i).toNat)
  case atStart => exact ⟨0, Nat.zero_le _, rfl, PO.nil _ _, bid _⟩
  case round =>
    obtain ⟨j, hj, rfl, hi⟩ := hrel
    have HI := hid hi
    obtain ⟨pa, pc, rfl, _, _⟩ := hi.own.form
    clear hi
    by_cases hlt : j < len0
    · obtain ⟨p, hp⟩ := tq_at (ps := ps) (k := j) (by rw [HLZ.out]; exact hlt)
      obtain ⟨g, off, hbo, hg, hcs⟩ := ((HROW.out.below (bthen (bthen HB1.out HB2.out) HI.out.below))).at (by omega)
      have ht := hcs j p hp
      have HPS := hid (planF_snoc hp)
      have HT8 := hid (show (planF (ps.take j)).length ≤ 900 by rw [planF_len, List.length_take]; have := H8.out; omega)
      obtain ⟨p1, p2, p3⟩ := p
      have n1 : (0 : Int) ≤ (j : Int) := by omega
      have n2 : (j : Int) < (len0 : Int) := by omega
      subst hbo
      have hb5 := bdrew (bid wr)
      have HAC := hid (show PbCells g (off + j * 3) ⟨p1, p2, p3⟩ wr.drew from ⟨(hb5.cell (p := ⟨g, _, none⟩) hg).trans ht.c0, (hb5.cell (p := ⟨g, _, none⟩) hg).trans ht.c1, (hb5.cell (p := ⟨g, _, none⟩) hg).trans ht.c2⟩)
      obtain ⟨v3, w3, hr3, ho3, hb3⟩ := append_op_run 37 (HI.out.own.below hb5) (bthen HI.out.below hb5).size (kF p1) (aF p2) p3 (op3 ⟨p1, p2, p3⟩) (op3_kind _) (op3_at _) rfl HT8.out
      obtain ⟨va3, vc3, rfl, _, _⟩ := ho3.form
      have HO3 := hid ho3
      have HB3 := hid ((bthen HI.out.below hb5).trans hb3)
      generalize (planF (ps.take j)).length = pn at *
      generalize (planF (ps.take j) ++ [op3 ⟨p1, p2, p3⟩]).length = n3 at *
      clear hcs ht hp ho3 hb3 hb5
      generalize hw5 : wr.drew = w5 at *
      have hne1 : Nonempty (Sat (PbCells g (off + j * 3) ⟨p1, p2, p3⟩)) := ⟨⟨_, HAC.out⟩⟩
      have hne2 : Nonempty (Sat (fun _ => True)) := ⟨⟨w, trivial⟩⟩
      have y0 := fun (y : Sat (PbCells g (off + j * 3) ⟨p1, p2, p3⟩)) => y.p.1
      have y1 := fun (y : Sat (PbCells g (off + j * 3) ⟨p1, p2, p3⟩)) => y.p.2.1
      have y2 := fun (y : Sat (PbCells g (off + j * 3) ⟨p1, p2, p3⟩)) => y.p.2.2
      go_wp2_with fail
      refine wp_region_staged (PbW w5 (w5.alloc (.cells #[.int .i64 (kF p1), .int .i64 (aF p2), .int .i64 p3] 40)) w3) (by kernel_rfl) (by kernel_rfl) (fun L hL => by unfold PbW; rw [hL, hL]; exact hw5) ?_
      refine wpS_plain (fun _ => True) (fun _ _ _ _ _ => trivial) (fun _ _ h => h) rfl rfl ?_
      intro KK hKK
      go_big_quiet_op
      go_big_quiet_on
      refine wpS_plain (fun _ => True) (fun _ _ _ _ _ => trivial) (fun _ _ h => h) rfl rfl ?_
      intro KK hKK
      go_big_quiet_op
      go_big_quiet_on
      refine wpS_plain (fun _ => True) (fun _ _ _ _ _ => trivial) (fun _ _ h => h) rfl rfl ?_
      intro KK hKK
      go_big_quiet_op
      go_big_quiet_on
      refine wpS_plain (fun _ => True) (fun _ _ _ _ _ => trivial) (fun _ _ h => h) rfl rfl ?_
      intro KK hKK
      go_big_quiet_op
      go_big_quiet_on
      refine wpS_plain (fun _ => True) (fun _ _ _ _ _ => trivial) (fun _ _ h => h) rfl rfl ?_
      intro KK hKK
      go_big_quiet_op
      go_big_quiet_on
      refine wpS_plain (PbCells g (off + j * 3) ⟨p1, p2, p3⟩) (fun L W hL hcl hd => by have h6 := hcl.no hL (j := 6) (by kernel_rfl); have h7 := hcl.no h6 (j := 7) (by kernel_rfl); have h8 := hcl.no h7 (j := 8) (by kernel_rfl); have h22 := hcl.no h8 (j := 22) (by kernel_rfl); have h23 := hcl.no h22 (j := 23) (by kernel_rfl); have h24 := hcl.no h23 (j := 24) (by kernel_rfl); rw [PbW.early hd h23 h24]; exact HAC.out) (fun _ _ h => h) rfl rfl ?_
      intro KK hKK
      go_big_quiet_op
      go_big_quiet_on
      refine wpS_plain (fun _ => True) (fun _ _ _ _ _ => trivial) (fun _ _ h => h) rfl rfl ?_
      intro KK hKK
      go_big_quiet_op
      go_big_quiet_on
      refine wpS_plain (fun _ => True) (fun _ _ _ _ _ => trivial) (fun _ _ h => h) rfl rfl ?_
      intro KK hKK
      go_big_quiet_op
      go_big_quiet_on
      refine wpS_plain (fun _ => True) (fun _ _ _ _ _ => trivial) (fun _ _ h => h) rfl rfl ?_
      intro KK hKK
      go_big_quiet_op
      go_big_quiet_on
      refine wpS_plain (fun _ => True) (fun _ _ _ _ _ => trivial) (fun _ _ h => h) rfl rfl ?_
      intro KK hKK
      go_big_quiet_op
      go_big_quiet_on
      refine wpS_plain (fun _ => True) (fun _ _ _ _ _ => trivial) (fun _ _ h => h) rfl rfl ?_
      intro KK hKK
      go_big_quiet_op
      go_big_quiet_on
      refine wpS_plain (fun _ => True) (fun _ _ _ _ _ => trivial) (fun _ _ h => h) rfl rfl ?_
      intro KK hKK
      go_big_quiet_op
      go_big_quiet_on
      refine wpS_plain (fun _ => True) (fun _ _ _ _ _ => trivial) (fun _ _ h => h) rfl rfl ?_
      intro KK hKK
      go_big_quiet_op
      go_big_quiet_on
      refine wpS_plain (PbCells g (off + j * 3) ⟨p1, p2, p3⟩) (fun L W hL hcl hd => by have h14 := hcl.no hL (j := 14) (by kernel_rfl); have h15 := hcl.no h14 (j := 15) (by kernel_rfl); have h16 := hcl.no h15 (j := 16) (by kernel_rfl); have h22 := hcl.no h16 (j := 22) (by kernel_rfl); have h23 := hcl.no h22 (j := 23) (by kernel_rfl); have h24 := hcl.no h23 (j := 24) (by kernel_rfl); rw [PbW.early hd h23 h24]; exact HAC.out) (fun _ _ h => h) rfl rfl ?_
      intro KK hKK
      go_big_quiet_op
      go_big_quiet_on
      refine wpS_plain (fun _ => True) (fun _ _ _ _ _ => trivial) (fun _ _ h => h) rfl rfl ?_
      intro KK hKK
      go_big_quiet_op
      go_big_quiet_on
      refine wpS_plain (fun _ => True) (fun _ _ _ _ _ => trivial) (fun _ _ h => h) rfl rfl ?_
      intro KK hKK
      go_big_quiet_op
      go_big_quiet_on
      refine wpS_plain (fun _ => True) (fun _ _ _ _ _ => trivial) (fun _ _ h => h) rfl rfl ?_
      intro KK hKK
      go_big_quiet_op
      go_big_quiet_on
      refine wpS_plain (fun _ => True) (fun _ _ _ _ _ => trivial) (fun _ _ h => h) rfl rfl ?_
      intro KK hKK
      go_big_quiet_op
      go_big_quiet_on
      refine wpS_plain (fun _ => True) (fun _ _ _ _ _ => trivial) (fun _ _ h => h) rfl rfl ?_
      intro KK hKK
      go_big_quiet_op
      go_big_quiet_on
      refine wpS_plain (fun _ => True) (fun _ _ _ _ _ => trivial) (fun _ _ h => h) rfl rfl ?_
      intro KK hKK
      go_big_quiet_op
      go_big_quiet_on
      refine wpS_plain (fun _ => True) (fun _ _ _ _ _ => trivial) (fun _ _ h => h) rfl rfl ?_
      intro KK hKK
      go_big_quiet_op
      go_big_quiet_on
      refine wpS_plain (PbCells g (off + j * 3) ⟨p1, p2, p3⟩) (fun L W hL hcl hd => by have h22 := hcl.no hL (j := 22) (by kernel_rfl); have h23 := hcl.no h22 (j := 23) (by kernel_rfl); have h24 := hcl.no h23 (j := 24) (by kernel_rfl); rw [PbW.early hd h23 h24]; exact HAC.out) (fun _ _ h => h) rfl rfl ?_
      intro KK hKK
      go_big_quiet_op
      go_big_quiet_on
      refine wpS_value (.agg #[.int .i64 (kF p1), .int .i64 (aF p2), .int .i64 p3]) rfl (fun _ => by go_simp; exact ⟨rfl, rfl⟩) (fun _ _ h => h) ?_
      (try simp only [Act.put, List.getElem_toArray, List.getElem_cons_zero, List.getElem_cons_succ, List.setIfInBounds_toArray, List.set_cons_zero, List.set_cons_succ])
      refine ⟨.slice (some ⟨w5.heap.size, 0, none⟩) 1 1, .inl ⟨rfl, fun L W hL hcl hd => ?_⟩, ?_⟩
      · have h24 := hcl.no hL (j := 24) (by kernel_rfl)
        obtain rfl : W = w5 := PbW.early hd hL h24
        go_simp
        refine ⟨rfl, ?_⟩
        unfold PbW
        rw [bump_ne _ (by decide), bump_at, h24]
        rfl
      (try simp only [Act.put, List.getElem_toArray, List.getElem_cons_zero, List.getElem_cons_succ, List.setIfInBounds_toArray, List.set_cons_zero, List.set_cons_succ])
      refine ⟨.slice va3 n3 vc3, .inl ⟨rfl, fun L W hL hcl hd => ?_⟩, ?_⟩
      · have h23 := hcl.dep (i := 23) (by kernel_rfl)
        obtain rfl : W = w5.alloc (.cells #[.int .i64 (kF p1), .int .i64 (aF p2), .int .i64 p3] 40) := by unfold PbW at hd; rw [hL, h23] at hd; exact hd
        refine gUpon_appendO (.tmp 39) (.tmp 62) rfl rfl rfl hr3 ?_
        unfold PbW
        rw [bump_at]
        rfl
      (try simp only [Act.put, List.getElem_toArray, List.getElem_cons_zero, List.getElem_cons_succ, List.setIfInBounds_toArray, List.set_cons_zero, List.set_cons_succ])
      refine wpS_plain (fun _ => True) (fun _ _ _ _ _ => trivial) (fun _ _ h => h) rfl rfl ?_
      intro KK hKK
      go_big_quiet_op
      go_big_quiet_on
      intro L W hall hd
      have HWE := hid (show W = w3 from by unfold PbW at hd; rw [hall 24 (by decide)] at hd; exact hd)
      clear hd hall y0 y1 y2 hne1 hne2
      go_wp2_with fail
      go_roundw
      case rel => exact ⟨j + 1, by omega, by go_num, by rw [HPS.out, HWE.out]; exact HO3.out, by rw [HWE.out]; exact HB3.out⟩
      case measure => simp [intOf]; omega
    · obtain rfl : j = len0 := by omega
      have hpo := HI.out.own
      rw [show ps.take j = ps from by rw [← HLZ.out]; exact List.take_length] at hpo
      have HPO := hid hpo
      have HB3 := hid HI.out.below
      rw [show ps.take j = ps from by rw [← HLZ.out]; exact List.take_length]
      have HPL8 := hid (show (planF ps).length ≤ 8 by rw [planF_len, HLZ.out]; exact H8.out)
      clear hpo HI
      generalize hpn : (planF ps).length = pn at *
      go_upto_region 13 with (go_at_call 17; go_must ((with_reducible refine (HNW.out (.slice pa pn pc) _).mono ?_); rintro e w4 ⟨xb, ρ', l, rfl, _, hg, hx, hb⟩; have HS := hid (LwS.start (ck := wrap64 (1 + wrap64 ((IntKind.u64.wrap a0).tmod 2))) HG1.out HMP.out HB1.out HP.out HB2.out HPO.out HB3.out (by have := HPL8.out; omega) hg hx hb); clear hg hx hb))
      clear HMP HB1 HP HB2 HPO HB3 HNW
      refine wp_renamed (LwS w g1 w4.heap.size mb vw (RU.new 1 (wrap64 (1 + wrap64 ((IntKind.u64.wrap a0).tmod 2))) (planF ps)) S0 0) HS.out ?_
      generalize w4.heap.size = ub
      clear HS
      intro W hs
      have HS := hid hs
      clear hs
      have HPL := hid (show (planF ps).length ≤ 8 ∧ ∀ o ∈ planF ps, o.2.1 < 4 from ⟨by have := HPL8.out; omega, planF_at ps⟩)
      generalize (wrap64 (1 + wrap64 ((IntKind.u64.wrap a0).tmod 2))) = ck at *
      obtain ⟨K, hK, HKE⟩ := mod_hid a2 60 60 rfl (by decide) (by decide)
      have HU := hid (show UnI ck [] (planF ps) S0 (RU.new 1 ck (planF ps)) from .new rfl rfl rfl)
      obtain ⟨⟨xb, e0⟩, e2, e3, e4, ef, el⟩ := HS.out.run
      have ef0 := ef 0
      have ef2 := ef 2
      have ef3 := ef 3
      have ef4 := ef 4
      clear ef
      go_wp2_with fail
      go_loopw [15] (fun y W => ∃ j : Nat, j ≤ 60 ∧ y = .int .i64 (j : Int) ∧ ∃ u s N, N ≤ 10 * j ∧ UnI ck [] (planF ps) s u ∧ LwS w g1 ub mb vw u s N W) (fun y _ => 60 - (intOf y).toNat)
      case atStart => exact ⟨0, Nat.zero_le _, rfl, _, _, 0, Nat.le_refl _, HU.out, HS.out⟩
      case round =>
        clear HS HU e0 e2 e3 e4 ef0 ef2 ef3 ef4 el
        obtain ⟨j, hj, rfl, u, s, N, hN, hu, hs⟩ := hrel
        have HU := hid hu
        have HS := hid hs
        clear hu hs
        obtain ⟨⟨xb, e0⟩, e2, e3, e4, ef, el⟩ := HS.out.run
        have ef0 := ef 0
        have ef2 := ef 2
        have ef3 := ef 3
        have ef4 := ef 4
        clear ef
        obtain ⟨⟨x0, x1, x2, x3, x4⟩, xf, xl⟩ := HS.out.cells
        have xf0 := xf 0
        have xf1 := xf 1
        have xf2 := xf 2
        have xf3 := xf 3
        have xf4 := xf 4
        clear xf
        have hj1 : wrap64 ((j : Int) + 1) = ((j + 1 : Nat) : Int) := q_wj hj
        by_cases hgo : j < K ∧ u.fin = 0
        · obtain ⟨hjk, hf⟩ := hgo
          have hjk1 : (j : Int) < (K : Int) := Int.ofNat_lt.2 hjk
          rw [hf] at e4
          have hN8 : N ≤ 80000 := Nat.le_trans hN (Nat.le_trans (Nat.mul_le_mul_left 10 hj) (by decide))
          have HNX := hid (HS.out.next (HU.out.pick hf) hN8)
          have HUN := hid (HU.out.next (.inl rfl) HCK.out HPL.out hf)
          have HJ := hid hjk
          have HNN := hid hN
          clear hf hN hN8
          have hKe := HKE.out
          go_upto_region 18 with fail
          clear hKe e0 e2 e3 e4 ef0 ef2 ef3 ef4 el hjk1 h8i
          go_upto_region 17 with (go_at_call 18; go_must ((with_reducible refine HNX.out.mono ?_); rintro e w7 ⟨rfl, hs⟩; have HS7 := hid hs; clear hs))
          clear x0 x1 x2 x3 x4 xf0 xf1 xf2 xf3 xf4 xl HS HU
          go_wp2_with fail
          have hj60 : j + 1 ≤ 60 := Nat.le_trans HJ.out (Nat.le_of_lt hK)
          have hN10 : N + 10 ≤ 10 * (j + 1) := e_ten HNN.out
          have HM6 := hid (e_m60 (Nat.lt_of_lt_of_le HJ.out (Nat.le_of_lt hK)))
          go_roundw
          case rel => exact ⟨j + 1, hj60, by go_num, _, _, N + 10, hN10, HUN.out, HS7.out⟩
          case measure => first | (rw [hj1]; exact HM6.out) | exact HM6.out
        · have hKe := HKE.out
          cases hdd : decide (j < K) with
          | true =>
            have hjk : j < K := of_decide_eq_true hdd
            have hf : ¬ u.fin = 0 := fun h => hgo ⟨hjk, h⟩
            have hjk1 : (j : Int) < (K : Int) := Int.ofNat_lt.2 hjk
            have hfb : (u.fin == 0) = false := by simpa using hf
            have hfc : (u.fin != 0) = true := by simpa using hf
            obtain ⟨hd, hfin⟩ : EX 0 s u.x ∧ u.fin = 1 := by
              cases HU.out with
              | new hw hu hs => subst hu; exact absurd rfl hf
              | on h hr => exact absurd h.fin hf
              | done h fin => exact ⟨h, fin⟩
            rw [hfin] at e4
            have HK3 := hid (fun V (hv : LwS w g1 ub mb vw u s N V) (hc : V.cell? ⟨ub, 0, none⟩ = some (.pointer (some ⟨xb, 0, none⟩))) => (by have := hv.kill hc 3; rw [kill_dead hd.alive] at this; exact this : Calls Try.prog 27 #[.pointer (some ⟨xb, 0, none⟩), .int .i64 3] V fun e W2 => e = .returned (.int .i64 1) ∧ LwS w g1 ub mb vw u s (N + 1) W2))
            clear hgo hdd
            go_upto_region 19 with fail
            clear hKe hjk1 h8i x0 x1 x2 x3 x4 xf0 xf1 xf2 xf3 xf4 xl e2 e3 ef2 ef3
            go_wp2_with (first | (go_at_call 13; go_must ((with_reducible refine (HTD.out _).mono ?_); rintro e w8 ⟨rfl, hb⟩; have HS8 := hid (HS.out.later hb); have e08 := (hb.cell (p := ⟨ub, 0, none⟩) el).trans e0; have ef08 := (hb.frozen (p := ⟨ub, 0, none⟩) el).trans ef0; clear hb)) | (go_at_call 27; go_must ((with_reducible refine (HK3.out _ HS8.out e08).mono ?_); rintro e w9 ⟨rfl, hs⟩; have HS9 := hid hs; clear hs)))
            go_ret
            exact ⟨rfl, HS9.out.below⟩
          | false =>
            have hjk : ¬ j < K := of_decide_eq_false hdd
            have hjk1 : ¬ (j : Int) < (K : Int) := fun h => hjk (Int.ofNat_lt.1 h)
            have HNN := hid (show N ≤ 600 from Nat.le_trans hN (Nat.le_trans (Nat.mul_le_mul_left 10 hj) (by decide)))
            clear hgo hdd
            go_upto_region 19 with fail
            clear hKe hjk1 h8i x0 x1 x2 x3 x4 xf0 xf1 xf2 xf3 xf4 xl
            have HDC := hid (HS.out.decided e0)
            rcases (show (u.fin = 1 ∧ EX 0 s u.x) ∨ (u = RU.new 1 ck (planF ps) ∧ s = S0) ∨ (SA ck [] 0 s u ∧ u.read.length ≤ u.i) from by
              cases HU.out with
              | new hw hu hs => exact .inr (.inl ⟨hu, hs⟩)
              | on h hr => exact .inr (.inr ⟨h, hr⟩)
              | done h fin => exact .inl ⟨fin, h⟩) with ⟨hfin, hd⟩ | ⟨hu, hs0⟩ | ⟨hsa, hrl⟩
            · rw [hfin] at e4
              have HK3 := hid (fun V (hv : LwS w g1 ub mb vw u s N V) (hc : V.cell? ⟨ub, 0, none⟩ = some (.pointer (some ⟨xb, 0, none⟩))) => (by have := hv.kill hc 3; rw [kill_dead hd.alive] at this; exact this : Calls Try.prog 27 #[.pointer (some ⟨xb, 0, none⟩), .int .i64 3] V fun e W2 => e = .returned (.int .i64 1) ∧ LwS w g1 ub mb vw u s (N + 1) W2))
              clear e2 e3 ef2 ef3
              go_wp2_with (first | (go_at_call 13; go_must ((with_reducible refine (HTD.out _).mono ?_); rintro e w8 ⟨rfl, hb⟩; have HS8 := hid (HS.out.later hb); have e08 := (hb.cell (p := ⟨ub, 0, none⟩) el).trans e0; have ef08 := (hb.frozen (p := ⟨ub, 0, none⟩) el).trans ef0; clear hb)) | (go_at_call 24; go_must ((with_reducible refine HDC.out.mono ?_); rintro e w6 ⟨rfl, rfl⟩)) | (go_at_call 27; go_must ((with_reducible refine (HK3.out _ HS8.out e08).mono ?_); rintro e w9 ⟨rfl, hs⟩; have HS9 := hid hs; clear hs)))
              go_ret
              exact ⟨rfl, HS9.out.below⟩
            · rw [show u.fin = 0 from by rw [hu]; rfl] at e4
              rw [show u.i = 0 from by rw [hu]; rfl] at e2
              rw [show u.busy = false from by rw [hu]; rfl] at e3
              rw [show u.x.sure = false from by rw [hu]; rfl] at HDC
              have hal : u.x.alive = false := by rw [hu]; rfl
              have hui : u.i = 0 := by rw [hu]; rfl
              have hub : u.busy = false := by rw [hu]; rfl
              clear hu hs0
              go_upto_region 22 with (go_at_call 24; go_must ((with_reducible refine HDC.out.mono ?_); rintro e w6 ⟨rfl, rfl⟩))
              generalize wrap64 (1 + wrap64 ((IntKind.u64.wrap a3).tmod 6)) = cv
              clear HDC
              have HKC := hid (by have := HS.out.kill e0 cv; rw [kill_dead hal] at this; exact this : Calls Try.prog 27 #[.pointer (some ⟨xb, 0, none⟩), .int .i64 cv] wr fun e W2 => e = .returned (.int .i64 1) ∧ LwS w g1 ub mb vw u s (N + 1) W2)
              go_upto_region 23 with (go_at_call 27; go_must ((with_reducible refine HKC.out.mono ?_); rintro e w9 ⟨rfl, hs⟩; have HS9 := hid hs; clear hs))
              have r2 := HS9.out.run.2.1
              have r3 := HS9.out.run.2.2.1
              have r4 := HS9.out.run.2.2.2.2.1 2
              have r5 := HS9.out.run.2.2.2.2.1 3
              rw [hui] at r2
              rw [hub] at r3
              clear e0 e2 e3 e4 ef0 ef2 ef3 ef4 el
              go_wp2_with (go_at_call 13; go_must ((with_reducible refine (HTD.out _).mono ?_); rintro e w8 ⟨rfl, hb⟩; have HS8 := hid (HS9.out.later hb); clear hb))
              go_ret
              exact ⟨rfl, HS8.out.below⟩
            · cases hsu : u.x.sure with
              | true =>
                rw [hsa.fin] at e4
                rw [hsu] at HDC
                have HK3 := hid (fun V (hv : LwS w g1 ub mb vw u s N V) (hc : V.cell? ⟨ub, 0, none⟩ = some (.pointer (some ⟨xb, 0, none⟩))) => (by have := hv.kill hc 3; rw [hsa.kill_sure hsu] at this; exact this : Calls Try.prog 27 #[.pointer (some ⟨xb, 0, none⟩), .int .i64 3] V fun e W2 => e = .returned (.int .i64 1) ∧ LwS w g1 ub mb vw u s (N + 1) W2))
                clear e2 e3 ef2 ef3 hsa
                go_wp2_with (first | (go_at_call 13; go_must ((with_reducible refine (HTD.out _).mono ?_); rintro e w8 ⟨rfl, hb⟩; have HS8 := hid (HS.out.later hb); have e08 := (hb.cell (p := ⟨ub, 0, none⟩) el).trans e0; have ef08 := (hb.frozen (p := ⟨ub, 0, none⟩) el).trans ef0; clear hb)) | (go_at_call 24; go_must ((with_reducible refine HDC.out.mono ?_); rintro e w6 ⟨rfl, rfl⟩)) | (go_at_call 27; go_must ((with_reducible refine (HK3.out _ HS8.out e08).mono ?_); rintro e w9 ⟨rfl, hs⟩; have HS9 := hid hs; clear hs)))
                go_ret
                exact ⟨rfl, HS9.out.below⟩
              | false =>
                rw [hsa.fin] at e4
                rw [hsu] at HDC
                have hi1 : ((u.i : Int) == 0) = false := e_nb hsa.i1
                have hi2 : ¬ (u.i : Int) = 0 := e_nz hsa.i1
                have HSA := hid hsa
                have HRL := hid hrl
                clear hsa hrl
                go_upto_region 22 with (go_at_call 24; go_must ((with_reducible refine HDC.out.mono ?_); rintro e w6 ⟨rfl, rfl⟩))
                generalize wrap64 (1 + wrap64 ((IntKind.u64.wrap a3).tmod 6)) = cv
                clear HDC
                have hi0 : u.i < 100 := e_i0 HSA.out.i2 HSA.out.pl.1
                have HK0 := hid (show ∃ c0 y, txKill u.x cv = (c0, y) ∧ (c0 = 2 ∧ DX cv 0 s y ∨ c0 = 0 ∧ UX cv 0 s y ∧ y.parts.length ≤ 2) from by
                  rcases HSA.out.kill hsu cv with ⟨y, h1, h2⟩ | ⟨y, h1, h2, h3⟩
                  · exact ⟨2, y, h1, .inl ⟨rfl, h2⟩⟩
                  · exact ⟨0, y, h1, .inr ⟨rfl, h2, h3⟩⟩)
                obtain ⟨c0, y, hky, hcs⟩ := HK0.out
                have HKC := hid (by have := HS.out.kill e0 cv; rw [hky] at this; exact this : Calls Try.prog 27 #[.pointer (some ⟨xb, 0, none⟩), .int .i64 cv] wr fun e W2 => e = .returned (.int .i64 c0) ∧ LwS w g1 ub mb vw { u with x := y } s (N + 1) W2)
                have HCS := hid hcs
                have HI0 := hid hi0
                clear HK0 hky hcs hi0
                go_upto_region 23 with (go_at_call 27; go_must ((with_reducible refine HKC.out.mono ?_); rintro e w9 ⟨rfl, hs⟩; have HS9 := hid hs; clear hs))
                have r2 : w9.cell? ⟨ub, 2, none⟩ = some (.int .i64 (u.i : Int)) := HS9.out.run.2.1
                have r4 := HS9.out.run.2.2.2.2.1 2
                clear e0 e2 e3 e4 ef0 ef2 ef3 ef4 el HKC HS HU HSA
                have HQ := hid (show ∃ j : Nat, j ≤ 60 ∧ (.int .i64 (0 : Int) : Value) = .int .i64 (j : Int) ∧ ∃ ce y s N, (.int .i64 c0 : Value) = .int .i64 ce ∧ N ≤ 700 + j ∧ (ce = 2 ∧ DX cv 0 s y ∨ ce = 0 ∧ UX cv 0 s y ∧ j + y.parts.length ≤ 2) ∧ LwS w g1 ub mb vw { u with x := y } s N w9 from
                  ⟨0, Nat.zero_le _, rfl, c0, y, s, N + 1, rfl, e_n7 HNN.out, HCS.out.imp id (fun h => ⟨h.1, h.2.1, q_p0 h.2.2⟩), HS9.out⟩)
                go_upto_block 4 with fail
                go_cut [17, 18] (fun ev jv V => ev = .int .i64 2 ∧ (∃ z : Int, jv = .int .i64 z) ∧ ∃ y s N, N ≤ 760 ∧ DX cv 0 s y ∧ LwS w g1 ub mb vw { u with x := y } s N V)
                case first =>
                  go_wp2_with fail
                  go_loopw [17, 18] (fun ev jv V => ∃ j : Nat, j ≤ 60 ∧ jv = .int .i64 (j : Int) ∧ ∃ ce y s N, ev = .int .i64 ce ∧ N ≤ 700 + j ∧ (ce = 2 ∧ DX cv 0 s y ∨ ce = 0 ∧ UX cv 0 s y ∧ j + y.parts.length ≤ 2) ∧ LwS w g1 ub mb vw { u with x := y } s N V) (fun _ jv _ => 60 - (intOf jv).toNat)
                  case atStart => exact HQ.out
                  case round =>
                    clear HQ HS9 HCS r2 r4
                    obtain ⟨j, hj, rfl, ce, y, s, N, rfl, hN, hcs, hs⟩ := hrel
                    have HS := hid hs
                    clear hs
                    have hj1 := q_wj hj
                    rcases hcs with ⟨rfl, hdx⟩ | ⟨rfl, hux, hji⟩
                    · have HNN := hid (q_760 hN hj)
                      have HDX := hid hdx
                      clear hdx
                      have HX := hid (show ∃ b : Bool, decide ((j : Int) < 60) = b from ⟨_, rfl⟩)
                      obtain ⟨b, hb⟩ := HX.out
                      cases b with
                      | true =>
                        have hj60 : (j : Int) < 60 := of_decide_eq_true hb
                        clear HX hb hj hN hj1
                        go_wp2_with fail
                        go_meet
                        case rel => exact ⟨rfl, ⟨_, rfl⟩, y, s, N, HNN.out, HDX.out, HS.out⟩
                      | false =>
                        have hj60 : ¬ (j : Int) < 60 := of_decide_eq_false hb
                        clear HX hb hj hN hj1
                        go_wp2_with fail
                        go_meet
                        case rel => exact ⟨rfl, ⟨_, rfl⟩, y, s, N, HNN.out, HDX.out, HS.out⟩
                    · have HJ3 := hid (q_ux hux hji)
                      have hj60 : (j : Int) < 60 := q_lt60 HJ3.out
                      obtain ⟨⟨xb, e0⟩, _, _, _, ef, el⟩ := HS.out.run
                      have ef0 := ef 0
                      have HJI := hid hji
                      have HNN := hid hN
                      rcases hux.step with ⟨y', s', ey, hu', hi'⟩ | ⟨y', s', ey, hd'⟩
                      · have HU8 := hid hu'
                        have HI8 := hid hi'
                        clear hu' hi'
                        have HST := hid (by have := HS.out.step e0 (UX.stOk (u := { u with x := y }) hux HI0.out HRL.out) (q_90 hN hj); rw [show txStep s ({ u with x := y } : RU).x = (0, y', s') from ey] at this; exact this : Calls Try.prog 28 #[.pointer (some ⟨xb, 0, none⟩), .pointer (some ⟨mb, 0, none⟩)] wr fun e W2 => e = .returned (.int .i64 0) ∧ LwS w g1 ub mb vw { u with x := y' } s' (N + 1) W2)
                        clear ef hux hji hN ey HS
                        go_upto_region 27 with (go_at_call 28; go_must ((with_reducible refine HST.out.mono ?_); rintro e w7 ⟨rfl, hs⟩; have HS8 := hid hs; clear hs))
                        clear e0 ef0 el HST hj60
                        have HR2 := hid (show ∃ ce y s N', (.int .i64 0 : Value) = .int .i64 ce ∧ N' ≤ 700 + (j + 1) ∧ (ce = 2 ∧ DX cv 0 s y ∨ ce = 0 ∧ UX cv 0 s y ∧ (j + 1) + y.parts.length ≤ 2) ∧ LwS w g1 ub mb vw { u with x := y } s N' w7 from ⟨0, y', s', N + 1, rfl, q_n1 HNN.out, .inr ⟨rfl, HU8.out, q_i2 HI8.out HJI.out⟩, HS8.out⟩)
                        have HJ4 := hid (q_le61 HJ3.out)
                        have HMS := hid (q_ms HJ3.out)
                        clear HS8 HU8 HI8 HJI HNN HJ3 hi1 hi2 HI0 HRL HTD HCK HPL HROW HLZ H8 HPL8 hK HKE
                        go_wp2_with fail
                        go_roundw
                        case rel => exact ⟨j + 1, HJ4.out, by go_num, HR2.out⟩
                        case measure => first | (rw [hj1]; exact HMS.out) | exact HMS.out
                      · have HD8 := hid hd'
                        clear hd'
                        have HST := hid (by have := HS.out.step e0 (UX.stOk (u := { u with x := y }) hux HI0.out HRL.out) (q_90 hN hj); rw [show txStep s ({ u with x := y } : RU).x = (2, y', s') from ey] at this; exact this : Calls Try.prog 28 #[.pointer (some ⟨xb, 0, none⟩), .pointer (some ⟨mb, 0, none⟩)] wr fun e W2 => e = .returned (.int .i64 2) ∧ LwS w g1 ub mb vw { u with x := y' } s' (N + 1) W2)
                        clear ef hux hji hN ey HS
                        go_upto_region 27 with (go_at_call 28; go_must ((with_reducible refine HST.out.mono ?_); rintro e w7 ⟨rfl, hs⟩; have HS8 := hid hs; clear hs))
                        clear e0 ef0 el HST hj60
                        have HR2 := hid (show ∃ ce y s N', (.int .i64 2 : Value) = .int .i64 ce ∧ N' ≤ 700 + (j + 1) ∧ (ce = 2 ∧ DX cv 0 s y ∨ ce = 0 ∧ UX cv 0 s y ∧ (j + 1) + y.parts.length ≤ 2) ∧ LwS w g1 ub mb vw { u with x := y } s N' w7 from ⟨2, y', s', N + 1, rfl, q_n1 HNN.out, .inl ⟨rfl, HD8.out⟩, HS8.out⟩)
                        have HJ4 := hid (q_le61 HJ3.out)
                        have HMS := hid (q_ms HJ3.out)
                        clear HS8 HD8 HJI HNN HJ3 hi1 hi2 HI0 HRL HTD HCK HPL HROW HLZ H8 HPL8 hK HKE
                        go_wp2_with fail
                        go_roundw
                        case rel => exact ⟨j + 1, HJ4.out, by go_num, HR2.out⟩
                        case measure => first | (rw [hj1]; exact HMS.out) | exact HMS.out
                case rest =>
                clear HQ HS9 HCS r2 r4
                obtain ⟨rfl, ⟨z, rfl⟩, y, s, N, hN, hdx, hs⟩ := hcut
                have HS := hid hs
                have HDX := hid hdx
                have HNN := hid hN
                clear hs hdx hN hi1 hi2 HI0 HRL HCK HPL HROW HLZ H8 HPL8 hK HKE
                go_upto_block 6 with fail
                go_cut [19] (fun dv V => (∃ z : Int, dv = .int .i64 z) ∧ LwS w g1 ub mb vw { u with x := y } s N V)
                case first =>
                  go_wp2_with fail
                  go_loopw [19] (fun dv V => ∃ d : Nat, d ≤ 4 ∧ dv = .int .i64 (d : Int) ∧ LwS w g1 ub mb vw { u with x := y } s N V) (fun dv _ => 4 - (intOf dv).toNat)
                  case atStart => exact ⟨0, Nat.zero_le _, rfl, HS.out⟩
                  case round =>
                    clear HS
                    obtain ⟨d, hd, rfl, hs⟩ := hrel
                    have HS := hid hs
                    clear hs
                    by_cases hd4 : d < 4
                    · have HDA := hid (data_calls hd4)
                      have hdi := q_i4 hd4
                      have hd1 := q_d1 hd4
                      have HM4 := hid (q_m4 hd4)
                      have HDD := hid (Nat.succ_le_of_lt hd4)
                      have HPK := hid (fun V (hv : LwS w g1 ub mb vw { u with x := y } s N V) => (by have := hv.peek (dataP d); rw [HDX.out.dat hd4] at this; exact this : Calls Try.prog 21 #[.pointer (some ⟨mb, 0, none⟩), .int .i64 (dataP d)] V fun e W2 => e = .returned (.int .i64 0) ∧ V = W2))
                      obtain ⟨⟨x0, x1, x2, x3, x4⟩, xf, xl⟩ := HS.out.cells
                      have xf0 := xf 0
                      have xf1 := xf 1
                      have xf2 := xf 2
                      have xf3 := xf 3
                      have xf4 := xf 4
                      clear xf
                      clear hd hd4 HTD
                      go_upto_region 31 with (first | (go_at_call 20; go_must ((with_reducible refine (HDA.out _).mono ?_); rintro e w7 ⟨rfl, hb⟩; have HS7 := hid (HS.out.later hb); clear hb)) | (go_at_call 21; go_must ((with_reducible refine (HPK.out _ HS7.out).mono ?_); rintro e w8 ⟨rfl, rfl⟩)))
                      clear HDA HPK x0 x1 x2 x3 x4 xf0 xf1 xf2 xf3 xf4 xl HDX HNN HS hdi
                      go_wp2_with fail
                      go_roundw
                      case rel => exact ⟨d + 1, HDD.out, by go_num, HS7.out⟩
                      case measure => first | (rw [hd1]; exact HM4.out) | exact HM4.out
                    · have hdi := q_n4 hd4
                      clear hd hd4
                      go_wp2_with fail
                      go_meet
                      case rel => exact ⟨⟨_, rfl⟩, HS.out⟩
                case rest =>
                clear HS
                obtain ⟨⟨z1, rfl⟩, hs⟩ := hcut
                have HS := hid hs
                clear hs
                go_upto_block 8 with fail
                go_cut [20] (fun dv V => (∃ z : Int, dv = .int .i64 z) ∧ LwS w g1 ub mb vw { u with x := y } s N V)
                case first =>
                  go_wp2_with fail
                  go_loopw [20] (fun dv V => ∃ d : Nat, d ≤ 3 ∧ dv = .int .i64 (d : Int) ∧ LwS w g1 ub mb vw { u with x := y } s N V) (fun dv _ => 3 - (intOf dv).toNat)
                  case atStart => exact ⟨0, Nat.zero_le _, rfl, HS.out⟩
                  case round =>
                    clear HS
                    obtain ⟨d, hd, rfl, hs⟩ := hrel
                    have HS := hid hs
                    clear hs
                    by_cases hd3 : d < 3
                    · have HDA := hid (stripe_calls hd3)
                      have hdi := q_i3 hd3
                      have hd1 := q_d1 (Nat.lt_succ_of_lt hd3)
                      have HM4 := hid (q_m3 hd3)
                      have HDD := hid (Nat.succ_le_of_lt hd3)
                      have HPK := hid (fun V (hv : LwS w g1 ub mb vw { u with x := y } s N V) => (by have := hv.peek (2 + (d : Int)); rw [HDX.out.str hd3] at this; exact this : Calls Try.prog 21 #[.pointer (some ⟨mb, 0, none⟩), .int .i64 (2 + (d : Int))] V fun e W2 => e = .returned (.int .i64 0) ∧ V = W2))
                      obtain ⟨⟨x0, x1, x2, x3, x4⟩, xf, xl⟩ := HS.out.cells
                      have xf0 := xf 0
                      have xf1 := xf 1
                      have xf2 := xf 2
                      have xf3 := xf 3
                      have xf4 := xf 4
                      clear xf
                      clear hd hd3 HTD
                      go_upto_region 36 with (first | (go_at_call 29; go_must ((with_reducible refine (HDA.out _).mono ?_); rintro e w7 ⟨rfl, hb⟩; have HS7 := hid (HS.out.later hb); clear hb)) | (go_at_call 21; go_must ((with_reducible refine (HPK.out _ HS7.out).mono ?_); rintro e w8 ⟨rfl, rfl⟩)))
                      clear HDA HPK x0 x1 x2 x3 x4 xf0 xf1 xf2 xf3 xf4 xl HDX HNN HS hdi
                      go_wp2_with fail
                      go_roundw
                      case rel => exact ⟨d + 1, HDD.out, by go_num, HS7.out⟩
                      case measure => first | (rw [hd1]; exact HM4.out) | exact HM4.out
                    · have hdi := q_n3 hd3
                      clear hd hd3
                      go_wp2_with fail
                      go_meet
                      case rel => exact ⟨⟨_, rfl⟩, HS.out⟩
                case rest =>
                clear HS
                obtain ⟨⟨z2, rfl⟩, hs⟩ := hcut
                have HS := hid hs
                clear hs
                obtain ⟨⟨xb, e0⟩, _, _, _, ef, el⟩ := HS.out.run
                have ef0 := ef 0
                clear ef
                obtain ⟨⟨x0, x1, x2, x3, x4⟩, xf, xl⟩ := HS.out.cells
                have xf0 := xf 0
                have xf1 := xf 1
                have xf2 := xf 2
                have xf3 := xf 3
                have xf4 := xf 4
                clear xf
                have HCA := hid (fun (z : Later wc) => (by have := (HS.out.later z.below).cause ((z.below.cell (p := ⟨ub, 0, none⟩) el).trans e0); rw [show ({ u with x := y } : RU).x.cause = cv from HDX.out.cause] at this; exact this : Calls Try.prog 30 #[.pointer (some ⟨xb, 0, none⟩)] z.v fun e W2 => e = .returned (.int .i64 cv) ∧ z.v = W2))
                have HMD := hid (fun (z : Later wc) => (by have := (HS.out.later z.below).made ((z.below.cell (p := ⟨ub, 0, none⟩) el).trans e0); rw [show ({ u with x := y } : RU).x.made = 0 from HDX.out.made] at this; exact this : Calls Try.prog 22 #[.pointer (some ⟨xb, 0, none⟩)] z.v fun e W2 => e = .returned (.int .i64 0) ∧ z.v = W2))
                have HPA := hid (fun (z : Later wc) => (by have := (HS.out.later z.below).peek 13; rw [HDX.out.ph.1] at this; exact this : Calls Try.prog 21 #[.pointer (some ⟨mb, 0, none⟩), .int .i64 13] z.v fun e W2 => e = .returned (.int .i64 0) ∧ z.v = W2))
                have HPB := hid (fun (z : Later wc) => (by have := (HS.out.later z.below).peek 1; rw [HDX.out.ph.2] at this; exact this : Calls Try.prog 21 #[.pointer (some ⟨mb, 0, none⟩), .int .i64 1] z.v fun e W2 => e = .returned (.int .i64 0) ∧ z.v = W2))
                have HDA := hid (show ∀ V, Calls Try.prog 20 #[.agg #[.int .i64 3, .int .i64 1, .int .i64 3, .int .i64 0, .int .i64 4], .int .i64 0] V (fun e w' => e = .returned (.int .i64 (dataP 0)) ∧ Below V.heap.size V w') from fun V => data_calls (d := 0) (by decide) V)
                have HRE := hid (fun (z : Later wc) => (by have := (HS.out.later z.below).read_dead ((z.below.cell (p := ⟨ub, 0, none⟩) el).trans e0) (dataP 0) HDX.out.alive (Nat.le_trans HNN.out (by decide)); exact this : Calls Try.prog 31 #[.pointer (some ⟨xb, 0, none⟩), .int .i64 (dataP 0)] z.v fun e W2 => e = .returned (.int .i64 2) ∧ LwS w g1 ub mb vw { u with x := y } s (N + 1) W2))
                clear HDX HNN HS
                generalize dataP 0 = da at *
                go_upto_region 39 with fail
                refine wp_region_later_tail 43 (by kernel_rfl) (by kernel_rfl) ?_
                dsimp only [List.take_succ_cons, List.take_zero, List.drop_succ_cons, List.drop_zero]
                repeat (go_big_quiet_step (first | (go_at_call 13; with_reducible exact later_call (HTD.out _)) | (go_at_call 30; with_reducible exact later_same (HCA.out _)) | (go_at_call 22; with_reducible exact later_same (HMD.out _)) | (go_at_call 25; with_reducible exact later_call (thread_calls _)) | (go_at_call 23; with_reducible exact later_call (seq_calls _)) | (go_at_call 20; with_reducible exact later_call (HDA.out _)) | (go_at_call 21; first | (with_reducible exact later_same (HPA.out _)) | (with_reducible exact later_same (HPB.out _)))))
                refine wpQuiet_nil ?_
                rintro _ ⟨z, rfl⟩
                go_wp2_with (go_at_call 31; go_must ((with_reducible refine (HRE.out z).mono ?_); rintro e w9 ⟨rfl, hs⟩; have HS9 := hid hs; clear hs))
                go_ret
                exact ⟨rfl, HS9.out.below⟩

end Go.Proofs.Ytjfinnjmcnjciaa
