/-
  PlaceGrows, its walk.
-/
import Derived.Test.YtjekhjjighbfaaaDoorNear
namespace Go.Proofs.YtjekhjjighbfaaaDoor
open Go.RowKit
attribute [local go_sem] Later.cell Later.frozen

theorem Near_ex (k0 k1 k2 k3 k4 : Int) (w : World) :
    Calls Tryd.prog 8 #[.agg #[.int .i64 k0, .int .i64 k1, .int .i64 k2, .int .i64 k3, .int .i64 k4]] w fun e w' => (∃ s l t c d : Int, (⟨s, l, t, c, d⟩ : PM).Ok ∧ e = .returned (.agg #[.int .i64 s, .int .i64 l, .int .i64 t, .int .i64 c, .int .i64 d])) ∧ Below w.heap.size w w' :=
  (Near_any k0 k1 k2 k3 k4 w).mono fun _ _ ⟨he, hb⟩ => ⟨⟨_, _, _, _, _, near_ok k0 k1 k2 k3 k4, he⟩, hb⟩

theorem mayB_ok {m : PM} (h : mayB m = true) : m.Ok := by simpa [mayB] using h

set_option maxHeartbeats 2000000 in
theorem grows_0 (k0 k1 k2 k3 k4 which : Int) (w : World) (hmod : IntKind.u64.wrap which % 3 = 0) :
    Calls Tryd.prog 7 #[.agg #[.int .i64 k0, .int .i64 k1, .int .i64 k2, .int .i64 k3, .int .i64 k4], .int .i64 which] w fun e w' => e = .returned (.bool true) ∧ Below w.heap.size w w' := by
  have hu := u64_pos which
  go_enter Tryd.func7, Tryd.ntmps7
  go_wp2_with (go_at_call 8; refine (Near_ex _ _ _ _ _ _).mono ?_; rintro e w1 ⟨⟨s, l, t, c, d, hok, rfl⟩, hb1⟩; have HOK := hid hok; obtain ⟨s1, s2, l1, l2, t1, t2, c1, c2, d1, d2⟩ := hok; obtain ⟨hc1, hf1, hz1⟩ := bcell hb1 (size_alloc1 _ _); have hz4 : w.heap.size < w1.heap.size := hz1; have HB1 := hid hb1; clear hb1)
  cases hM : mayB ⟨s, l, t, c, d + 1⟩
  case false =>
    go_wp2_with (first | (go_at_call 35; refine (may_any ⟨s, l, t, c, d + 1⟩ _).mono ?_; rintro e w2 ⟨rfl, hb2⟩; have HB2 := hid hb2; clear hb2) | (go_at_call 34; refine (told_any _).mono ?_; rintro e w3 ⟨rfl, hb3⟩; have HB3 := hid hb3; clear hb3))
    go_ret
    exact ⟨rfl, bthen (bthen (bnew (bnew (bthen (bnew (bid w) _) HB1.out) _) _) HB2.out) HB3.out⟩
  case true =>
    have HNO := hid (mayB_ok hM)
    go_wp2_with (go_at_call 35; refine (may_any ⟨s, l, t, c, d + 1⟩ _).mono ?_; rintro e w2 ⟨rfl, hb2⟩; have HB2 := hid hb2; clear hb2)
    have HX : Hid (MapAt 24 w2 w1.heap.size ⟨s, l, t, c, d⟩ ∧ MapAt 24 w2 (w1.heap.size + 1) ⟨s, l, t, c, d + 1⟩ ∧ Below w.heap.size w w2) := hid ⟨((MapAt.new _ w1 ⟨s, l, t, c, d⟩).alloc _).below HB2.out, by
      have h := (MapAt.new 24 (w1.alloc (.cells (PM.cells ⟨s, l, t, c, d⟩) 24)) ⟨s, l, t, c, d + 1⟩)
      rw [size_alloc1] at h
      exact h.below HB2.out, bthen (bnew (bnew (bthen (bnew (bid w) _) HB1.out) _) _) HB2.out⟩
    clear HB2 HB1 hc1 hf1 hz1 hz4
    go_loopw [7] (fun i wr => ∃ k : Nat, (k : Int) ≤ s ∧ i = .int .i64 k ∧ MapAt 24 wr w1.heap.size ⟨s, l, t, c, d⟩ ∧ MapAt 24 wr (w1.heap.size + 1) ⟨s, l, t, c, d + 1⟩ ∧ Below w.heap.size w wr) (fun i _ => s.toNat - (intOf i).toNat)
    case atStart => exact ⟨0, by omega, rfl, HX.out⟩
    case round =>
      clear HX
      obtain ⟨k, hk, rfl, hx⟩ := hrel
      obtain ⟨m0, m1, m2, m3, m4, m5⟩ := hx.1.facts
      obtain ⟨n0, n1, n2, n3, n4, n5⟩ := hx.2.1.facts
      have HX := hid hx
      clear hx
      by_cases hlt : (k : Int) < s
      · have e1 : PM.at_ ⟨s, l, t, c, d + 1⟩ 2 k 0 = PM.at_ ⟨s, l, t, c, d⟩ 2 k 0 := by
          rw [PM.at_in HNO.out (by omega) hlt (by decide) (by decide), PM.at_in HOK.out (by omega) hlt (by decide) (by decide)]
          rfl
        go_wp2_with fail
        refine wp_region_later (by kernel_rfl) (by kernel_rfl) ?_
        repeat (go_big_quiet_step ((go_at_call 13; first | (with_reducible exact later_call (Stripe_any ⟨s, l, t, c, d + 1⟩ _ _)) | (with_reducible exact later_call (Stripe_any ⟨s, l, t, c, d⟩ _ _)))))
        refine wpQuiet_nil ?_
        rintro _ ⟨x, rfl⟩
        go_wp2
        go_roundw
        case rel => exact ⟨k + 1, by omega, by go_num, HX.out.1.below x.below, HX.out.2.1.below x.below, bthen HX.out.2.2 x.below⟩
        case measure => simp [intOf]; omega
      · go_wp2_with fail
        clear m0 m1 m2 m3 m4 n0 n1 n2 n3 n4 hlt
        go_loopw [8] (fun i wr => ∃ k : Nat, (k : Int) ≤ l ∧ i = .int .i64 k ∧ MapAt 24 wr w1.heap.size ⟨s, l, t, c, d⟩ ∧ MapAt 24 wr (w1.heap.size + 1) ⟨s, l, t, c, d + 1⟩ ∧ Below w.heap.size w wr) (fun i _ => l.toNat - (intOf i).toNat)
        case atStart => exact ⟨0, by omega, rfl, HX.out⟩
        case round =>
          clear HX
          obtain ⟨k, hk, rfl, hx⟩ := hrel
          obtain ⟨m0, m1, m2, m3, m4, m5⟩ := hx.1.facts
          obtain ⟨n0, n1, n2, n3, n4, n5⟩ := hx.2.1.facts
          have HX := hid hx
          clear hx
          by_cases hlt : (k : Int) < l
          · have e1 : PM.at_ ⟨s, l, t, c, d + 1⟩ 3 k 4 = PM.at_ ⟨s, l, t, c, d⟩ 3 k 4 := by
              rw [PM.at_in HNO.out (by omega) hlt (by decide) (by decide), PM.at_in HOK.out (by omega) hlt (by decide) (by decide)]
              rfl
            go_wp2_with fail
            refine wp_region_later (by kernel_rfl) (by kernel_rfl) ?_
            repeat (go_big_quiet_step ((go_at_call 14; first | (with_reducible exact later_call (Lock_any ⟨s, l, t, c, d + 1⟩ _ _ _)) | (with_reducible exact later_call (Lock_any ⟨s, l, t, c, d⟩ _ _ _)))))
            refine wpQuiet_nil ?_
            rintro _ ⟨x, rfl⟩
            go_wp2
            go_roundw
            case rel => exact ⟨k + 1, by omega, by go_num, HX.out.1.below x.below, HX.out.2.1.below x.below, bthen HX.out.2.2 x.below⟩
            case measure => simp [intOf]; omega
          · have hsz : PM.size ⟨s, l, t, c, d⟩ < PM.size ⟨s, l, t, c, d + 1⟩ := by
              rw [PM.size_ok HOK.out, PM.size_ok HNO.out]
              simp only [PM.from_]
              omega
            have e2 : PM.at_ ⟨s, l, t, c, d + 1⟩ 6 0 0 = PM.at_ ⟨s, l, t, c, d⟩ 6 0 0 := by
              rw [PM.at_in HNO.out (by decide) (by simp only [PM.many]; omega) (by decide) (by decide), PM.at_in HOK.out (by decide) (by simp only [PM.many]; omega) (by decide) (by decide)]
              rfl
            cases hd : (d == 0)
            case' false =>
              have hd0 : 0 < d := by have := ne_of_beq_false hd; omega
              have e3 : PM.at_ ⟨s, l, t, c, d + 1⟩ 8 0 0 = PM.at_ ⟨s, l, t, c, d⟩ 8 0 0 := by
                rw [PM.at_in HNO.out (by decide) (by simp only [PM.many]; omega) (by decide) (by decide), PM.at_in HOK.out (by decide) (by simp only [PM.many]; omega) (by decide) (by decide)]
                rfl
            all_goals
              go_wp2_with fail
              refine wp_region_later (by kernel_rfl) (by kernel_rfl) ?_
              repeat (go_big_quiet_step (first | (go_at_call 34; with_reducible exact later_call (told_any _)) | (go_at_call 10; first | (with_reducible exact later_call (Size_any ⟨s, l, t, c, d + 1⟩ _)) | (with_reducible exact later_call (Size_any ⟨s, l, t, c, d⟩ _))) | (go_at_call 17; first | (with_reducible exact later_call (Flag_any ⟨s, l, t, c, d + 1⟩ _ _)) | (with_reducible exact later_call (Flag_any ⟨s, l, t, c, d⟩ _ _))) | (go_at_call 19; first | (with_reducible exact later_call (Data_any ⟨s, l, t, c, d + 1⟩ _ _)) | (with_reducible exact later_call (Data_any ⟨s, l, t, c, d⟩ _ _)))))
              refine wpQuiet_nil ?_
              rintro _ ⟨x, rfl⟩
              go_wp2
              go_ret
              exact ⟨rfl, bthen HX.out.2.2 x.below⟩

set_option maxHeartbeats 2000000 in
theorem grows_1 (k0 k1 k2 k3 k4 which : Int) (w : World) (hmod : IntKind.u64.wrap which % 3 = 1) :
    Calls Tryd.prog 7 #[.agg #[.int .i64 k0, .int .i64 k1, .int .i64 k2, .int .i64 k3, .int .i64 k4], .int .i64 which] w fun e w' => e = .returned (.bool true) ∧ Below w.heap.size w w' := by
  have hu := u64_pos which
  go_enter Tryd.func7, Tryd.ntmps7
  go_wp2_with (go_at_call 8; refine (Near_ex _ _ _ _ _ _).mono ?_; rintro e w1 ⟨⟨s, l, t, c, d, hok, rfl⟩, hb1⟩; have HOK := hid hok; obtain ⟨s1, s2, l1, l2, t1, t2, c1, c2, d1, d2⟩ := hok; obtain ⟨hc1, hf1, hz1⟩ := bcell hb1 (size_alloc1 _ _); have hz4 : w.heap.size < w1.heap.size := hz1; have HB1 := hid hb1; clear hb1)
  cases hM : mayB ⟨s, l, t, c + 1, d⟩
  case false =>
    go_wp2_with (first | (go_at_call 35; refine (may_any ⟨s, l, t, c + 1, d⟩ _).mono ?_; rintro e w2 ⟨rfl, hb2⟩; have HB2 := hid hb2; clear hb2) | (go_at_call 34; refine (told_any _).mono ?_; rintro e w3 ⟨rfl, hb3⟩; have HB3 := hid hb3; clear hb3))
    go_ret
    exact ⟨rfl, bthen (bthen (bnew (bnew (bthen (bnew (bid w) _) HB1.out) _) _) HB2.out) HB3.out⟩
  case true =>
    have HNO := hid (mayB_ok hM)
    go_wp2_with (go_at_call 35; refine (may_any ⟨s, l, t, c + 1, d⟩ _).mono ?_; rintro e w2 ⟨rfl, hb2⟩; have HB2 := hid hb2; clear hb2)
    have HX : Hid (MapAt 24 w2 w1.heap.size ⟨s, l, t, c, d⟩ ∧ MapAt 24 w2 (w1.heap.size + 1) ⟨s, l, t, c + 1, d⟩ ∧ Below w.heap.size w w2) := hid ⟨((MapAt.new _ w1 ⟨s, l, t, c, d⟩).alloc _).below HB2.out, by
      have h := (MapAt.new 24 (w1.alloc (.cells (PM.cells ⟨s, l, t, c, d⟩) 24)) ⟨s, l, t, c + 1, d⟩)
      rw [size_alloc1] at h
      exact h.below HB2.out, bthen (bnew (bnew (bthen (bnew (bid w) _) HB1.out) _) _) HB2.out⟩
    clear HB2 HB1 hc1 hf1 hz1 hz4
    go_loopw [7] (fun i wr => ∃ k : Nat, (k : Int) ≤ s ∧ i = .int .i64 k ∧ MapAt 24 wr w1.heap.size ⟨s, l, t, c, d⟩ ∧ MapAt 24 wr (w1.heap.size + 1) ⟨s, l, t, c + 1, d⟩ ∧ Below w.heap.size w wr) (fun i _ => s.toNat - (intOf i).toNat)
    case atStart => exact ⟨0, by omega, rfl, HX.out⟩
    case round =>
      clear HX
      obtain ⟨k, hk, rfl, hx⟩ := hrel
      obtain ⟨m0, m1, m2, m3, m4, m5⟩ := hx.1.facts
      obtain ⟨n0, n1, n2, n3, n4, n5⟩ := hx.2.1.facts
      have HX := hid hx
      clear hx
      by_cases hlt : (k : Int) < s
      · have e1 : PM.at_ ⟨s, l, t, c + 1, d⟩ 2 k 0 = PM.at_ ⟨s, l, t, c, d⟩ 2 k 0 := by
          rw [PM.at_in HNO.out (by omega) hlt (by decide) (by decide), PM.at_in HOK.out (by omega) hlt (by decide) (by decide)]
          rfl
        go_wp2_with fail
        refine wp_region_later (by kernel_rfl) (by kernel_rfl) ?_
        repeat (go_big_quiet_step ((go_at_call 13; first | (with_reducible exact later_call (Stripe_any ⟨s, l, t, c + 1, d⟩ _ _)) | (with_reducible exact later_call (Stripe_any ⟨s, l, t, c, d⟩ _ _)))))
        refine wpQuiet_nil ?_
        rintro _ ⟨x, rfl⟩
        go_wp2
        go_roundw
        case rel => exact ⟨k + 1, by omega, by go_num, HX.out.1.below x.below, HX.out.2.1.below x.below, bthen HX.out.2.2 x.below⟩
        case measure => simp [intOf]; omega
      · go_wp2_with fail
        clear m0 m1 m2 m3 m4 n0 n1 n2 n3 n4 hlt
        go_loopw [8] (fun i wr => ∃ k : Nat, (k : Int) ≤ l ∧ i = .int .i64 k ∧ MapAt 24 wr w1.heap.size ⟨s, l, t, c, d⟩ ∧ MapAt 24 wr (w1.heap.size + 1) ⟨s, l, t, c + 1, d⟩ ∧ Below w.heap.size w wr) (fun i _ => l.toNat - (intOf i).toNat)
        case atStart => exact ⟨0, by omega, rfl, HX.out⟩
        case round =>
          clear HX
          obtain ⟨k, hk, rfl, hx⟩ := hrel
          obtain ⟨m0, m1, m2, m3, m4, m5⟩ := hx.1.facts
          obtain ⟨n0, n1, n2, n3, n4, n5⟩ := hx.2.1.facts
          have HX := hid hx
          clear hx
          by_cases hlt : (k : Int) < l
          · have e1 : PM.at_ ⟨s, l, t, c + 1, d⟩ 3 k 4 = PM.at_ ⟨s, l, t, c, d⟩ 3 k 4 := by
              rw [PM.at_in HNO.out (by omega) hlt (by decide) (by decide), PM.at_in HOK.out (by omega) hlt (by decide) (by decide)]
              rfl
            go_wp2_with fail
            refine wp_region_later (by kernel_rfl) (by kernel_rfl) ?_
            repeat (go_big_quiet_step ((go_at_call 14; first | (with_reducible exact later_call (Lock_any ⟨s, l, t, c + 1, d⟩ _ _ _)) | (with_reducible exact later_call (Lock_any ⟨s, l, t, c, d⟩ _ _ _)))))
            refine wpQuiet_nil ?_
            rintro _ ⟨x, rfl⟩
            go_wp2
            go_roundw
            case rel => exact ⟨k + 1, by omega, by go_num, HX.out.1.below x.below, HX.out.2.1.below x.below, bthen HX.out.2.2 x.below⟩
            case measure => simp [intOf]; omega
          · have hsz : PM.size ⟨s, l, t, c, d⟩ < PM.size ⟨s, l, t, c + 1, d⟩ := by
              rw [PM.size_ok HOK.out, PM.size_ok HNO.out]
              simp only [PM.from_]
              omega
            have e2 : PM.at_ ⟨s, l, t, c + 1, d⟩ 6 0 0 = PM.at_ ⟨s, l, t, c, d⟩ 6 0 0 := by
              rw [PM.at_in HNO.out (by decide) (by simp only [PM.many]; omega) (by decide) (by decide), PM.at_in HOK.out (by decide) (by simp only [PM.many]; omega) (by decide) (by decide)]
              rfl
            go_wp2_with fail
            refine wp_region_later (by kernel_rfl) (by kernel_rfl) ?_
            repeat (go_big_quiet_step (first | (go_at_call 34; with_reducible exact later_call (told_any _)) | (go_at_call 10; first | (with_reducible exact later_call (Size_any ⟨s, l, t, c + 1, d⟩ _)) | (with_reducible exact later_call (Size_any ⟨s, l, t, c, d⟩ _))) | (go_at_call 17; first | (with_reducible exact later_call (Flag_any ⟨s, l, t, c + 1, d⟩ _ _)) | (with_reducible exact later_call (Flag_any ⟨s, l, t, c, d⟩ _ _))) | (go_at_call 19; first | (with_reducible exact later_call (Data_any ⟨s, l, t, c + 1, d⟩ _ _)) | (with_reducible exact later_call (Data_any ⟨s, l, t, c, d⟩ _ _)))))
            refine wpQuiet_nil ?_
            rintro _ ⟨x, rfl⟩
            go_wp2
            go_ret
            exact ⟨rfl, bthen HX.out.2.2 x.below⟩

set_option maxHeartbeats 2000000 in
theorem grows_2 (k0 k1 k2 k3 k4 which : Int) (w : World) (hmod : IntKind.u64.wrap which % 3 = 2) :
    Calls Tryd.prog 7 #[.agg #[.int .i64 k0, .int .i64 k1, .int .i64 k2, .int .i64 k3, .int .i64 k4], .int .i64 which] w fun e w' => e = .returned (.bool true) ∧ Below w.heap.size w w' := by
  have hu := u64_pos which
  go_enter Tryd.func7, Tryd.ntmps7
  go_wp2_with (go_at_call 8; refine (Near_ex _ _ _ _ _ _).mono ?_; rintro e w1 ⟨⟨s, l, t, c, d, hok, rfl⟩, hb1⟩; have HOK := hid hok; obtain ⟨s1, s2, l1, l2, t1, t2, c1, c2, d1, d2⟩ := hok; obtain ⟨hc1, hf1, hz1⟩ := bcell hb1 (size_alloc1 _ _); have hz4 : w.heap.size < w1.heap.size := hz1; have HB1 := hid hb1; clear hb1)
  cases hM : mayB ⟨s, l, t + 1, c, d⟩
  case false =>
    go_wp2_with (first | (go_at_call 35; refine (may_any ⟨s, l, t + 1, c, d⟩ _).mono ?_; rintro e w2 ⟨rfl, hb2⟩; have HB2 := hid hb2; clear hb2) | (go_at_call 34; refine (told_any _).mono ?_; rintro e w3 ⟨rfl, hb3⟩; have HB3 := hid hb3; clear hb3))
    go_ret
    exact ⟨rfl, bthen (bthen (bnew (bnew (bthen (bnew (bid w) _) HB1.out) _) _) HB2.out) HB3.out⟩
  case true =>
    have HNO := hid (mayB_ok hM)
    go_wp2_with (go_at_call 35; refine (may_any ⟨s, l, t + 1, c, d⟩ _).mono ?_; rintro e w2 ⟨rfl, hb2⟩; have HB2 := hid hb2; clear hb2)
    have HX : Hid (MapAt 24 w2 w1.heap.size ⟨s, l, t, c, d⟩ ∧ MapAt 24 w2 (w1.heap.size + 1) ⟨s, l, t + 1, c, d⟩ ∧ Below w.heap.size w w2) := hid ⟨((MapAt.new _ w1 ⟨s, l, t, c, d⟩).alloc _).below HB2.out, by
      have h := (MapAt.new 24 (w1.alloc (.cells (PM.cells ⟨s, l, t, c, d⟩) 24)) ⟨s, l, t + 1, c, d⟩)
      rw [size_alloc1] at h
      exact h.below HB2.out, bthen (bnew (bnew (bthen (bnew (bid w) _) HB1.out) _) _) HB2.out⟩
    clear HB2 HB1 hc1 hf1 hz1 hz4
    go_loopw [7] (fun i wr => ∃ k : Nat, (k : Int) ≤ s ∧ i = .int .i64 k ∧ MapAt 24 wr w1.heap.size ⟨s, l, t, c, d⟩ ∧ MapAt 24 wr (w1.heap.size + 1) ⟨s, l, t + 1, c, d⟩ ∧ Below w.heap.size w wr) (fun i _ => s.toNat - (intOf i).toNat)
    case atStart => exact ⟨0, by omega, rfl, HX.out⟩
    case round =>
      clear HX
      obtain ⟨k, hk, rfl, hx⟩ := hrel
      obtain ⟨m0, m1, m2, m3, m4, m5⟩ := hx.1.facts
      obtain ⟨n0, n1, n2, n3, n4, n5⟩ := hx.2.1.facts
      have HX := hid hx
      clear hx
      by_cases hlt : (k : Int) < s
      · have e1 : PM.at_ ⟨s, l, t + 1, c, d⟩ 2 k 0 = PM.at_ ⟨s, l, t, c, d⟩ 2 k 0 := by
          rw [PM.at_in HNO.out (by omega) hlt (by decide) (by decide), PM.at_in HOK.out (by omega) hlt (by decide) (by decide)]
          rfl
        go_wp2_with fail
        refine wp_region_later (by kernel_rfl) (by kernel_rfl) ?_
        repeat (go_big_quiet_step ((go_at_call 13; first | (with_reducible exact later_call (Stripe_any ⟨s, l, t + 1, c, d⟩ _ _)) | (with_reducible exact later_call (Stripe_any ⟨s, l, t, c, d⟩ _ _)))))
        refine wpQuiet_nil ?_
        rintro _ ⟨x, rfl⟩
        go_wp2
        go_roundw
        case rel => exact ⟨k + 1, by omega, by go_num, HX.out.1.below x.below, HX.out.2.1.below x.below, bthen HX.out.2.2 x.below⟩
        case measure => simp [intOf]; omega
      · go_wp2_with fail
        clear m0 m1 m2 m3 m4 n0 n1 n2 n3 n4 hlt
        go_loopw [8] (fun i wr => ∃ k : Nat, (k : Int) ≤ l ∧ i = .int .i64 k ∧ MapAt 24 wr w1.heap.size ⟨s, l, t, c, d⟩ ∧ MapAt 24 wr (w1.heap.size + 1) ⟨s, l, t + 1, c, d⟩ ∧ Below w.heap.size w wr) (fun i _ => l.toNat - (intOf i).toNat)
        case atStart => exact ⟨0, by omega, rfl, HX.out⟩
        case round =>
          clear HX
          obtain ⟨k, hk, rfl, hx⟩ := hrel
          obtain ⟨m0, m1, m2, m3, m4, m5⟩ := hx.1.facts
          obtain ⟨n0, n1, n2, n3, n4, n5⟩ := hx.2.1.facts
          have HX := hid hx
          clear hx
          by_cases hlt : (k : Int) < l
          · have e1 : PM.at_ ⟨s, l, t + 1, c, d⟩ 3 k 4 = PM.at_ ⟨s, l, t, c, d⟩ 3 k 4 := by
              rw [PM.at_in HNO.out (by omega) hlt (by decide) (by decide), PM.at_in HOK.out (by omega) hlt (by decide) (by decide)]
              rfl
            go_wp2_with fail
            refine wp_region_later (by kernel_rfl) (by kernel_rfl) ?_
            repeat (go_big_quiet_step ((go_at_call 14; first | (with_reducible exact later_call (Lock_any ⟨s, l, t + 1, c, d⟩ _ _ _)) | (with_reducible exact later_call (Lock_any ⟨s, l, t, c, d⟩ _ _ _)))))
            refine wpQuiet_nil ?_
            rintro _ ⟨x, rfl⟩
            go_wp2
            go_roundw
            case rel => exact ⟨k + 1, by omega, by go_num, HX.out.1.below x.below, HX.out.2.1.below x.below, bthen HX.out.2.2 x.below⟩
            case measure => simp [intOf]; omega
          · have hsz : PM.size ⟨s, l, t, c, d⟩ < PM.size ⟨s, l, t + 1, c, d⟩ := by
              rw [PM.size_ok HOK.out, PM.size_ok HNO.out]
              simp only [PM.from_]
              have : (t + 1) * l = t * l + l := by rw [Int.add_mul]; omega
              omega

            go_wp2_with fail
            refine wp_region_later (by kernel_rfl) (by kernel_rfl) ?_
            repeat (go_big_quiet_step (first | (go_at_call 34; with_reducible exact later_call (told_any _)) | (go_at_call 10; first | (with_reducible exact later_call (Size_any ⟨s, l, t + 1, c, d⟩ _)) | (with_reducible exact later_call (Size_any ⟨s, l, t, c, d⟩ _))) | (go_at_call 17; first | (with_reducible exact later_call (Flag_any ⟨s, l, t + 1, c, d⟩ _ _)) | (with_reducible exact later_call (Flag_any ⟨s, l, t, c, d⟩ _ _))) | (go_at_call 19; first | (with_reducible exact later_call (Data_any ⟨s, l, t + 1, c, d⟩ _ _)) | (with_reducible exact later_call (Data_any ⟨s, l, t, c, d⟩ _ _)))))
            refine wpQuiet_nil ?_
            rintro _ ⟨x, rfl⟩
            go_wp2
            go_ret
            exact ⟨rfl, bthen HX.out.2.2 x.below⟩

theorem grows_walk (k0 k1 k2 k3 k4 which : Int) (w : World) :
    Calls Tryd.prog 7 #[.agg #[.int .i64 k0, .int .i64 k1, .int .i64 k2, .int .i64 k3, .int .i64 k4], .int .i64 which] w fun e w' => e = .returned (.bool true) ∧ Below w.heap.size w w' := by
  have hu := u64_pos which
  have h : IntKind.u64.wrap which % 3 = 0 ∨ IntKind.u64.wrap which % 3 = 1 ∨ IntKind.u64.wrap which % 3 = 2 := by omega
  rcases h with h | h | h
  · exact grows_0 k0 k1 k2 k3 k4 which w h
  · exact grows_1 k0 k1 k2 k3 k4 which w h
  · exact grows_2 k0 k1 k2 k3 k4 which w h

end Go.Proofs.YtjekhjjighbfaaaDoor
