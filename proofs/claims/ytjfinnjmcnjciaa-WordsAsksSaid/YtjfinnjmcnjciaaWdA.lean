/-
  WordsAsks: its walk.
-/
import Derived.Test.YtjfinnjmcnjciaaWdW
namespace Go.Proofs.Ytjfinnjmcnjciaa
open Go.RowKit
attribute [local go_sem] Later.cell Later.frozen

theorem wd_i1 {j n : Nat} (h : j < n) (hn : n ≤ 2) : wrap64 ((j : Int) + 1) = ((j + 1 : Nat) : Int) := by unfold wrap64; omega
theorem wd_in {j n : Nat} (h : j < n) : (j : Int) < (n : Int) := by omega
theorem wd_nin {j n : Nat} (h : ¬ j < n) : ¬ (j : Int) < (n : Int) := by omega
theorem wd_0 (j : Nat) : (0 : Int) ≤ (j : Int) := by omega
theorem wd_mi {j n : Nat} (h : j < n) : n - (intOf (.int .i64 ((j + 1 : Nat) : Int))).toNat < n - (intOf (.int .i64 (j : Int))).toNat := by simp [intOf]; omega

set_option maxHeartbeats 8000000 in
set_option maxRecDepth 100000 in
theorem wasks_any (k0 k1 k2 k3 k4 lk : Int) (rw0 rd0 : Bool) (at0 val0 : Int) (lv0 : Bool) (w : World) :
    Calls Try.prog 8 #[.agg #[.int .i64 k0, .int .i64 k1, .int .i64 k2, .int .i64 k3, .int .i64 k4], .int .i64 lk, .bool rw0, .bool rd0, .int .i64 at0, .int .i64 val0, .bool lv0] w fun e w' => e = .returned (.bool true) ∧ Below w.heap.size w w' := by
  have HN := hid (fun W => Near_any k0 k1 k2 k3 k4 W)
  have HT := hid (fun W => told17_any W)
  generalize near k0 k1 k2 k3 k4 = m at *
  have HRF := hid (fun W => pRef_any m W)
  go_enter Try.func8, Try.ntmps8
  go_upto_region 1 with fail
  have HB0 := hid (bnew (bid w) (.cells #[.int .i64 k0, .int .i64 k1, .int .i64 k2, .int .i64 k3, .int .i64 k4] 66))
  obtain ⟨s, l, t, c, d⟩ := m
  go_upto_region 2 with (go_at_call 35; go_must ((with_reducible refine (HN.out _).mono ?_); rintro e w1 ⟨rfl, hb⟩; have HB1 := hid (bthen HB0.out hb); clear hb))
  refine wp_rename (fun W => MapAt 31 W w1.heap.size ⟨s, l, t, c, d⟩ ∧ Below w.heap.size w W) ⟨MapAt.new 31 w1 ⟨s, l, t, c, d⟩, bnew HB1.out _⟩ ?_
  generalize w1.heap.size = q
  clear HB1 HB0 HN
  rintro w1 ⟨hm, hb⟩
  have HM := hid hm
  have HB := hid hb
  clear hm hb
  obtain ⟨x0, x1, x2, x3, x4, xl⟩ := HM.out.facts
  go_upto_region 3 with (go_at_call 36; go_must ((with_reducible refine (HRF.out _).mono ?_); rintro e w2 ⟨rfl, hb⟩; have HB1 := hid hb; clear hb))
  refine wp_rename (fun W => MapAt 31 W q ⟨s, l, t, c, d⟩ ∧ MapAt 68 W w2.heap.size ⟨s, l, t, c, d⟩ ∧ Below w.heap.size w W) ⟨(HM.out.below HB1.out).alloc _, MapAt.new 68 w2 ⟨s, l, t, c, d⟩, bnew (bthen HB.out HB1.out) _⟩ ?_
  generalize w2.heap.size = qr
  clear HM HB HB1 HRF x0 x1 x2 x3 x4 xl
  rintro wr ⟨hm, hm2, hb⟩
  have HM := hid hm
  have HM2 := hid hm2
  have HB := hid hb
  clear hm hm2 hb
  obtain ⟨x0, x1, x2, x3, x4, xl⟩ := HM.out.facts
  obtain ⟨y0, y1, y2, y3, y4, yl⟩ := HM2.out.facts
  go_upto_region 4 with fail
  generalize wrap64 (wrap64 ((IntKind.u64.wrap lk).tmod 6) - 1) = i at *
  have HW1 := hid (fun W => Watched_any ⟨s, l, t, c, d⟩ i rw0 rd0 W)
  have HW2 := hid (fun W => rWatched_any ⟨s, l, t, c, d⟩ i rw0 rd0 W)
  have HL2 := hid (watL_len (PM.at_ ⟨s, l, t, c, d⟩ 3 i 4) rw0 rd0)
  generalize watL (PM.at_ ⟨s, l, t, c, d⟩ 3 i 4) rw0 rd0 = ws at *
  have HKM := hid (fun (W : World) (hW : Below wr.heap.size wr W) => (show (W.cell? ⟨q, 0, none⟩ = some (.int .i64 s) ∧ W.cell? ⟨q, 1, none⟩ = some (.int .i64 l) ∧ W.cell? ⟨q, 2, none⟩ = some (.int .i64 t) ∧ W.cell? ⟨q, 3, none⟩ = some (.int .i64 c) ∧ W.cell? ⟨q, 4, none⟩ = some (.int .i64 d)) ∧ (W.cell? ⟨qr, 0, none⟩ = some (.int .i64 s) ∧ W.cell? ⟨qr, 1, none⟩ = some (.int .i64 l) ∧ W.cell? ⟨qr, 2, none⟩ = some (.int .i64 t) ∧ W.cell? ⟨qr, 3, none⟩ = some (.int .i64 c) ∧ W.cell? ⟨qr, 4, none⟩ = some (.int .i64 d)) from by
    obtain ⟨h0, h1, h2, h3, h4, _⟩ := (HM.out.below hW).facts
    obtain ⟨g0, g1, g2, g3, g4, _⟩ := (HM2.out.below hW).facts
    exact ⟨⟨h0, h1, h2, h3, h4⟩, ⟨g0, g1, g2, g3, g4⟩⟩))
  go_region_held3 (fun W => (W.cell? ⟨q, 0, none⟩ = some (.int .i64 s) ∧ W.cell? ⟨q, 1, none⟩ = some (.int .i64 l) ∧ W.cell? ⟨q, 2, none⟩ = some (.int .i64 t) ∧ W.cell? ⟨q, 3, none⟩ = some (.int .i64 c) ∧ W.cell? ⟨q, 4, none⟩ = some (.int .i64 d)) ∧ (W.cell? ⟨qr, 0, none⟩ = some (.int .i64 s) ∧ W.cell? ⟨qr, 1, none⟩ = some (.int .i64 l) ∧ W.cell? ⟨qr, 2, none⟩ = some (.int .i64 t) ∧ W.cell? ⟨qr, 3, none⟩ = some (.int .i64 c) ∧ W.cell? ⟨qr, 4, none⟩ = some (.int .i64 d))) (first | exact HKM.out _ (bid wr) | exact HKM.out _ (bdrew (bid wr)) | exact HKM.out _ HC2.out | exact HKM.out _ HC1.out) (first | (go_at_call 37; ((with_reducible refine (HW1.out _).mono ?_); rintro e w1 ⟨p1, c1, rfl, hr, hb⟩; have HC1 := hid (bthen (bdrew (bid wr)) hb); have HR1 := hid hr; clear hb hr)) | (go_at_call 38; ((with_reducible refine (HW2.out _).mono ?_); rintro e w2 ⟨p2, c2, rfl, hr, hb⟩; have HC2 := hid (bthen HC1.out hb); have HR1 := hid (HR1.out.below hb); have HR2 := hid hr; clear hb hr)))
  clear HW1 HW2 HKM x0 x1 x2 x3 x4 xl y0 y1 y2 y3 y4 yl
  have HB3 := hid (bthen HB.out HC2.out)
  have HM3 := hid (HM.out.below HC2.out)
  have HN3 := hid (HM2.out.below HC2.out)
  clear HB HM HM2 HC1 HC2
  go_wp2_with fail
  go_loopw [20] (fun v W => ∃ j : Nat, j ≤ ws.length ∧ v = .int .i64 (j : Int) ∧ Below w2.heap.size w2 W) (fun v _ => ws.length - (intOf v).toNat)
  case atStart => exact ⟨0, Nat.zero_le _, rfl, bid _⟩
  case round =>
    obtain ⟨j, hj, rfl, hb⟩ := hrel
    have HC := hid hb
    clear hb
    by_cases hlt : j < ws.length
    · obtain ⟨b1, o1, rfl, l1, z1⟩ := (HR1.out.below HC.out).at (Nat.lt_of_le_of_lt (Nat.zero_le _) hlt)
      obtain ⟨b2, o2, rfl, l2, z2⟩ := (HR2.out.below HC.out).at (Nat.lt_of_le_of_lt (Nat.zero_le _) hlt)
      have c1 := z1 j hlt
      have c2 := z2 j hlt
      have n1 := wd_0 j
      have n2 := wd_in hlt
      have n3 := wd_i1 hlt HL2.out
      have HMI := hid (wd_mi hlt)
      have HJ := hid hlt
      generalize ws.getD j 0 = x at *
      clear z1 z2 hj hlt
      go_upto_region 10 with fail
      go_quiet (fail)
      go_wp2_with fail
      go_roundw
      case rel => exact ⟨j + 1, HJ.out, by go_num, (HC.out).trans ⟨rfl, rfl, rfl, Nat.le_refl _, fun _ _ => rfl⟩⟩
      case measure => first | (rw [n3]; exact HMI.out) | exact HMI.out
    · have n2 := wd_nin hlt
      clear hlt hj
      have HM4 := hid (HM3.out.below HC.out)
      have HN4 := hid (HN3.out.below HC.out)
      have HB4 := hid (bthen HB3.out HC.out)
      clear HM3 HN3 HB3 HC HR1 HR2 HL2
      obtain ⟨x0, x1, x2, x3, x4, xl⟩ := HM4.out.facts
      obtain ⟨y0, y1, y2, y3, y4, yl⟩ := HN4.out.facts
      go_upto_region 13 with fail
      have HLK := hid (fun (ii : Int) W => Lock_any ⟨s, l, t, c, d⟩ ii 4 W)
      go_upto_if 69 with fail
      go_cut [21] (fun v W => ∃ p : Int, v = .int .i64 p ∧ Below wr.heap.size wr W)
      case first =>
        by_cases hc : 0 < (IntKind.u64.wrap at0).tmod 4
        · go_wp2_with (go_at_call 32; go_must ((with_reducible refine (HLK.out _ _).mono ?_); rintro e w4 ⟨rfl, hb⟩; have HC4 := hid hb; clear hb))
          all_goals
            go_meet
            case rel => exact ⟨_, rfl, HC4.out⟩
        · go_wp2_with fail
          go_meet
          case rel => exact ⟨_, rfl, bid _⟩
      case rest =>
      obtain ⟨p, rfl, hb⟩ := hcut
      have HM5 := hid (HM4.out.below hb)
      have HN5 := hid (HN4.out.below hb)
      have HB5 := hid (bthen HB4.out hb)
      clear HM4 HN4 HB4 HLK x0 x1 x2 x3 x4 xl y0 y1 y2 y3 y4 yl hb
      obtain ⟨x0, x1, x2, x3, x4, xl⟩ := HM5.out.facts
      have HK1 := hid (fun W => Mark_any ⟨s, l, t, c, d⟩ i rd0 lv0 W)
      have HK2 := hid (fun W => rMark_any ⟨s, l, t, c, d⟩ i rd0 lv0 W)
      have HH1 := hid (fun W => Held_any ⟨s, l, t, c, d⟩ i p val0 W)
      have HH2 := hid (fun W => rHeld_any ⟨s, l, t, c, d⟩ i p val0 W)
      unfold MarkRet at HK1 HK2
      generalize markP (PM.at_ ⟨s, l, t, c, d⟩ 3 i 4) rd0 = mp at *
      generalize markN (PM.at_ ⟨s, l, t, c, d⟩ 3 i 4) rd0 lv0 = mn at *
      generalize heldF (PM.at_ ⟨s, l, t, c, d⟩ 3 i 4) p val0 = hd at *
      go_upto_region 16 with (go_at_call 39; go_must ((with_reducible refine (HK1.out _).mono ?_); rintro e w6 ⟨rfl, hb⟩; have HC6 := hid hb; clear hb))
      have HM6 := hid (HM5.out.below HC6.out)
      have HN6 := hid (HN5.out.below HC6.out)
      have HB6 := hid (bthen HB5.out HC6.out)
      clear HM5 HN5 HB5 HC6 HK1 x0 x1 x2 x3 x4 xl
      obtain ⟨y0, y1, y2, y3, y4, yl⟩ := HN6.out.facts
      go_upto_region 17 with (go_at_call 40; go_must ((with_reducible refine (HK2.out _).mono ?_); rintro e w7 ⟨rfl, hb⟩; have HC7 := hid hb; clear hb))
      have HM7 := hid (HM6.out.below HC7.out)
      have HN7 := hid (HN6.out.below HC7.out)
      have HB7 := hid (bthen HB6.out HC7.out)
      clear HM6 HN6 HB6 HC7 HK2 y0 y1 y2 y3 y4 yl
      obtain ⟨x0, x1, x2, x3, x4, xl⟩ := HM7.out.facts
      obtain ⟨y0, y1, y2, y3, y4, yl⟩ := HN7.out.facts
      refine wp_region_later (by kernel_rfl) (by kernel_rfl) ?_
      repeat (go_big_quiet_step (first | (go_at_call 41; with_reducible exact later_call (HT.out _)) | (go_at_call 42; with_reducible exact later_call (HH1.out _)) | (go_at_call 43; with_reducible exact later_call (HH2.out _))))
      refine wpQuiet_nil ?_
      rintro _ ⟨x, rfl⟩
      go_wp2_with fail
      go_ret
      exact ⟨rfl, bthen HB7.out x.below⟩

end Go.Proofs.Ytjfinnjmcnjciaa
