/-
  RwAsks: each step of any hand, at any words, is what the document says.
-/
import Derived.Test.YtmcmajndcbobpaaRwAs
namespace Go.Proofs.Ytmcmajndcbobpaa
open Go.RowKit
attribute [local go_sem] Later.cell Later.frozen

set_option maxRecDepth 100000 in
set_option maxHeartbeats 8000000 in
theorem rwask_any (x0 x1 x2 x3 x4 x5 : Int) (h : HD) (near drop : Bool) (w : World) :
    Calls Try.prog 3 #[.agg #[.int .i64 x0, .int .i64 x1, .int .i64 x2, .int .i64 x3, .int .i64 x4, .int .i64 x5], h.v, .bool near, .bool drop] w fun e w' => e = .returned (.bool true) ∧ Below w.heap.size w w' := by
  have HRF := hid (fun (x : World) => pRef_any mp4 x)
  have HSZ := hid (fun (x : World) => (show Calls Try.prog 11 #[mp4.v] x fun e w' => e = .returned (.int .i64 48) ∧ Below x.heap.size x w' from by have := refSize_any mp4 x; rwa [mp4_size] at this))
  obtain ⟨cs, hcs, hmk⟩ := zmake 48 (by omega)
  have hmk : ∀ W : World, (Instr.makeSlice 31 (.int .i64 48) (.int .i64 48)).run Try.prog W = .ok (.slice (some ⟨W.heap.size, 0, none⟩) 48 48) (W.alloc (.cells cs 2)) := hmk
  have HCS := hid hcs
  have HMK := hid hmk
  clear hcs hmk
  have HXS := hid (RowV.six (T := 22) w (fun k => match k with | 0 => .int .i64 x0 | 1 => .int .i64 x1 | 2 => .int .i64 x2 | 3 => .int .i64 x3 | 4 => .int .i64 x4 | _ => .int .i64 x5))
  obtain ⟨xs, hxs⟩ : ∃ xs : Nat → Int, xs = fun k => match k with | 0 => x0 | 1 => x1 | 2 => x2 | 3 => x3 | 4 => x4 | _ => x5 := ⟨_, rfl⟩
  have HWS := hid (show RowV 22 (w.alloc (.cells #[.int .i64 x0, .int .i64 x1, .int .i64 x2, .int .i64 x3, .int .i64 x4, .int .i64 x5] 22)) w.heap.size 6 (fun k => .int .i64 (xs k)) from by rw [hxs]; exact RowV.six w (fun k => .int .i64 ((fun k => match k with | 0 => x0 | 1 => x1 | 2 => x2 | 3 => x3 | 4 => x4 | _ => x5 : Nat → Int) k)))
  clear HXS hxs
  have HH0 := hid (show HandAt ((w.alloc (.cells #[.int .i64 x0, .int .i64 x1, .int .i64 x2, .int .i64 x3, .int .i64 x4, .int .i64 x5] 22)).alloc (.cells h.cells 24)) (w.heap.size + 1) h from by have := HandAt.new (w.alloc (.cells #[.int .i64 x0, .int .i64 x1, .int .i64 x2, .int .i64 x3, .int .i64 x4, .int .i64 x5] 22)) h; rwa [size_alloc1] at this)
  have HB0 := hid (bnew (bnew (bid w) (.cells #[.int .i64 x0, .int .i64 x1, .int .i64 x2, .int .i64 x3, .int .i64 x4, .int .i64 x5] 22)) (.cells h.cells 24))
  obtain ⟨ht, hl, hs, hr, hx⟩ := h
  show Calls _ _ #[_, .agg #[.int .i64 ht, .int .i64 hl, .int .i64 hs, .bool hr, .int .i64 hx], _, _] _ _
  go_enter Try.func3, Try.ntmps3
  go_upto_region 1 with fail
  refine wp_rename (fun W => RowV 22 W w.heap.size 6 (fun k => .int .i64 (xs k)) ∧ HandAt W (w.heap.size + 1) ⟨ht, hl, hs, hr, hx⟩ ∧ Below w.heap.size w W) ⟨HWS.out.below (bnew (bid _) _), HH0.out, HB0.out⟩ ?_
  generalize hqw : w.heap.size = qw
  generalize hqh : qw + 1 = qh
  have HQH := hid (And.intro hqw hqh)
  clear HH0 HB0 hqw hqh HWS
  rintro W ⟨hw, hk, hb⟩
  have HW := hid hw
  have HK := hid hk
  have HB := hid hb
  clear hw hk hb
  go_upto_region 2 with (go_at_call 8; (with_reducible refine (Map_any _).mono ?_); rintro e w1 ⟨rfl, hb1⟩; have HB1 := hid hb1; clear hb1)
  refine wp_rename (fun W => RowV 22 W qw 6 (fun k => .int .i64 (xs k)) ∧ HandAt W qh ⟨ht, hl, hs, hr, hx⟩ ∧ MapAt 26 W w1.heap.size mp4 ∧ qh < w1.heap.size ∧ Below w.heap.size w W) ⟨HW.out.below (bnew HB1.out _), HK.out.below (bnew HB1.out _), MapAt.new _ w1 mp4, Nat.lt_of_lt_of_le HK.out.lt HB1.out.size, by rw [HQH.out.1]; exact HB.out.trans ((bnew HB1.out _).mono (Nat.le_of_lt HW.out.lt))⟩ ?_
  generalize w1.heap.size = q
  clear HW HK HB HB1
  rintro W ⟨hw, hk, hk2, hqq, hb⟩
  have HW := hid hw
  have HK := hid hk
  have HK2 := hid hk2
  have HB := hid hb
  have HQQ := hid hqq
  obtain ⟨m0, m1, m2, m3, m4, _⟩ := hk2.facts
  obtain ⟨d0, d1, d2, d3, d4, df⟩ := hk.facts
  clear hw hk hk2 hb hqq
  go_upto_if 21 with fail
  go_cut [] (fun W => ∃ g : HD, RowV 22 W qw 6 (fun k => .int .i64 (xs k)) ∧ HandAt W qh g ∧ MapAt 26 W q mp4 ∧ Below w.heap.size w W)
  case first =>
    cases near
    · go_wp2_with fail
      go_meet
      case rel => exact ⟨_, HW.out, HK.out, HK2.out, HB.out⟩
    · go_wp2_with (go_at_call 9; (with_reducible refine (Hand9_any ⟨ht, hl, hs, hr, hx⟩ _).mono ?_); rintro e w3 ⟨⟨⟨gt, gl', gs, gr, gx⟩, rfl⟩, hb3⟩; have HB3 := hid hb3; have HK3 := hid (HK.out.below hb3); clear hb3 d0 d1 d2 d3 d4 df; obtain ⟨d0, d1, d2, d3, d4, df⟩ := HK3.out.facts)
      go_meet
      case rel =>
        have hw := (Wrote.refl (fun j => j = qh) w3).set5 (q := qh) (fun _ => rfl) (.int .i64 gt) (.int .i64 gl') (.int .i64 gs) (.bool gr) (.int .i64 gx)
        have h1 := HQH.out.1
        have h2 := HQH.out.2
        exact ⟨⟨gt, gl', gs, gr, gx⟩, (HW.out.below HB3.out).kept hw (by omega), HK3.out.set5 ⟨gt, gl', gs, gr, gx⟩, (hw.block q (HK2.out.below HB3.out).lt (by have := HQQ.out; omega)).trans (HK2.out.below HB3.out), (bthen HB.out HB3.out).trans (hw.below (bthen HB.out HB3.out).size fun j hj e => by omega)⟩
  case rest =>
    clear HW HK HK2 HB m0 m1 m2 m3 m4 d0 d1 d2 d3 d4 df
    obtain ⟨h, hw, hk, hk2, hb⟩ := hcut
    have HW := hid hw
    have HK := hid hk
    have HK2 := hid hk2
    have HB := hid hb
    obtain ⟨m0, m1, m2, m3, m4, _⟩ := hk2.facts
    clear hw hk hk2 hb
    go_upto_region 5 with (go_at_call 10; (with_reducible refine (HRF.out _).mono ?_); rintro e w1 ⟨rfl, hb1⟩; have HB1 := hid hb1; clear hb1)
    refine wp_rename (fun W => RowV 22 W qw 6 (fun k => .int .i64 (xs k)) ∧ HandAt W qh h ∧ MapAt 26 W q mp4 ∧ MapAt 29 W w1.heap.size mp4 ∧ q < w1.heap.size ∧ Below w.heap.size w W) ⟨HW.out.below (bnew HB1.out _), HK.out.below (bnew HB1.out _), (HK2.out.below HB1.out).alloc _, MapAt.new _ w1 mp4, Nat.lt_of_lt_of_le HK2.out.lt HB1.out.size, bnew (bthen HB.out HB1.out) _⟩ ?_
    generalize w1.heap.size = qf
    clear HW HK HK2 HB HB1 HRF m0 m1 m2 m3 m4
    rintro W ⟨hw, hk, hk2, hk3, hqf, hb⟩
    have HW := hid hw
    have HK := hid hk
    have HK2 := hid hk2
    have HK3 := hid hk3
    have HB := hid hb
    have HQF := hid hqf
    obtain ⟨m0, m1, m2, m3, m4, _⟩ := hk3.facts
    clear hw hk hk2 hk3 hb hqf
    have hmk := HMK.out
    go_upto_region 6 with (go_at_call 11; (with_reducible refine (HSZ.out _).mono ?_); rintro e w2 ⟨rfl, hb2⟩; have HB2 := hid hb2; clear hb2)
    refine wp_rename (fun W => LsAt w q qf qh w2.heap.size h (zrow 48) W ∧ RowV 22 W qw 6 (fun k => .int .i64 (xs k)) ∧ qw ≠ w2.heap.size) (by
      have h1 := Ints.lit (B := w.heap.size) (zrow 48) w2 2 cs HCS.out (bthen HB.out HB2.out).size (by unfold maxLen; decide)
      have z1 := HK.out.lt
      have z2 := HK2.out.lt
      have z3 := HK3.out.lt
      have z4 := HB2.out.size
      have z5 := HQQ.out
      have z6 := HQF.out
      have z7 := HW.out.lt
      exact ⟨⟨(HK.out.below HB2.out).below (bnew (bid _) _), (HK2.out.below HB2.out).alloc _, (HK3.out.below HB2.out).alloc _, h1, rfl, ⟨by omega, by omega, by omega, by omega, by omega, by omega⟩, (bthen HB.out HB2.out).size, bnew (bthen HB.out HB2.out) _⟩, (HW.out.below HB2.out).below (bnew (bid _) _), by omega⟩) ?_
    generalize w2.heap.size = gl
    clear HW HK HK2 HK3 HB HB2 HSZ HMK hmk HCS m0 m1 m2 m3 m4 HQQ HQF HQH
    rintro W3 ⟨hk, hw, hne⟩
    have HK := hid hk
    have HW := hid hw
    have HNE := hid hne
    clear hk hw hne
    obtain ⟨ht, hl, hs, hr, hx⟩ := h
    obtain ⟨d0, d1, d2, d3, d4, df⟩ := HK.out.box.facts
    have dz := HK.out.box.lt
    refine wp_region_later (by kernel_rfl) (by kernel_rfl) ?_
    repeat (go_big_quiet_step (fail))
    refine wpQuiet_nil ?_
    rintro _ ⟨xq, rfl⟩
    have HK := hid (HK.out.later xq.below)
    have HW := hid (HW.out.below xq.below)
    clear d0 d1 d2 d3 d4 df dz
    go_upto_region 7 with fail
    obtain ⟨lk, hlk, hlv⟩ := pick_of2 hl
    obtain ⟨t, htk, htv⟩ := pick_of4 ht
    rw [hlv, htv]
    clear hlv htv
    generalize hh : (HD.mk ht hl hs hr hx) = h at *
    clear hh
    go_cut [14] (fun v W => ∃ qat, v = .slice (some ⟨qat, 0, none⟩) 6 6 ∧ LsAt w q qf qh gl h (zrow 48) W ∧ RowV 22 W qw 6 (fun k => .int .i64 (xs k)) ∧ RowV 3 W qat 6 (fun k => .int .i64 (wpl lk t k : Nat)) ∧ qat ≠ gl)
    case first =>
      obtain ⟨n0, n1, n2, n3, n4, _⟩ := HK.out.rmap.facts
      have zn := HK.out.rmap.lt
      rcases (show (lk = 0 ∧ (t = 0 ∨ t = 1 ∨ t = 2 ∨ t = 3)) ∨ (lk = 1 ∧ (t = 0 ∨ t = 1 ∨ t = 2 ∨ t = 3)) by omega) with ⟨rfl, rfl | rfl | rfl | rfl⟩ | ⟨rfl, rfl | rfl | rfl | rfl⟩
      · have HL0 := hid (fun (x : World) => (show Calls Try.prog 12 #[mp4.v, .int .i64 0, .int .i64 0] x fun e w' => e = .returned (.int .i64 4) ∧ Below x.heap.size x w' from by
          have := refLock_any mp4 0 0 x
          rwa [show mp4.at_ 3 0 0 = 4 from by decide] at this))
        have HL3 := hid (fun (x : World) => (show Calls Try.prog 12 #[mp4.v, .int .i64 0, .int .i64 3] x fun e w' => e = .returned (.int .i64 7) ∧ Below x.heap.size x w' from by
          have := refLock_any mp4 0 3 x
          rwa [show mp4.at_ 3 0 3 = 7 from by decide] at this))
        have HN0 := hid (fun (x : World) => (show Calls Try.prog 13 #[mp4.v, .int .i64 0, .int .i64 0, .int .i64 0] x fun e w' => e = .returned (.int .i64 24) ∧ Below x.heap.size x w' from by
          have := refNode_any mp4 0 0 0 x
          rwa [show mp4.node 0 0 0 = 24 from by decide] at this))
        have HN1 := hid (fun (x : World) => (show Calls Try.prog 13 #[mp4.v, .int .i64 0, .int .i64 0, .int .i64 1] x fun e w' => e = .returned (.int .i64 25) ∧ Below x.heap.size x w' from by
          have := refNode_any mp4 0 0 1 x
          rwa [show mp4.node 0 0 1 = 25 from by decide] at this))
        have HN2 := hid (fun (x : World) => (show Calls Try.prog 13 #[mp4.v, .int .i64 1, .int .i64 0, .int .i64 0] x fun e w' => e = .returned (.int .i64 28) ∧ Below x.heap.size x w' from by
          have := refNode_any mp4 1 0 0 x
          rwa [show mp4.node 1 0 0 = 28 from by decide] at this))
        have HN3 := hid (fun (x : World) => (show Calls Try.prog 13 #[mp4.v, .int .i64 1, .int .i64 0, .int .i64 1] x fun e w' => e = .returned (.int .i64 29) ∧ Below x.heap.size x w' from by
          have := refNode_any mp4 1 0 1 x
          rwa [show mp4.node 1 0 1 = 29 from by decide] at this))
        refine wp_region_later_tail 26 (by kernel_rfl) (by kernel_rfl) ?_
        simp only [List.take_succ_cons, List.take_zero, List.drop_succ_cons, List.drop_zero]
        repeat (go_big_quiet_step (first | (go_at_call 12; first | (with_reducible exact later_call (HL0.out _)) | (with_reducible exact later_call (HL3.out _))) | (go_at_call 13; first | (with_reducible exact later_call (HN0.out _)) | (with_reducible exact later_call (HN1.out _)) | (with_reducible exact later_call (HN2.out _)) | (with_reducible exact later_call (HN3.out _)))))
        refine wpQuiet_nil ?_
        rintro _ ⟨xq, rfl⟩
        have HK9 := hid (HK.out.later xq.below)
        clear n0 n1 n2 n3 n4 zn
        go_wp2_with fail
        go_meet
        case rel => exact ⟨_, rfl, HK9.out.later (bnew (bid xq.v) _), RowV.below (HW.out.below xq.below) (bnew (bid xq.v) _), RowV.six xq.v (fun k => .int .i64 (wpl 0 0 k : Nat)), by have := HK9.out.row.lt.2; omega⟩
      · have HL0 := hid (fun (x : World) => (show Calls Try.prog 12 #[mp4.v, .int .i64 0, .int .i64 0] x fun e w' => e = .returned (.int .i64 4) ∧ Below x.heap.size x w' from by
          have := refLock_any mp4 0 0 x
          rwa [show mp4.at_ 3 0 0 = 4 from by decide] at this))
        have HL3 := hid (fun (x : World) => (show Calls Try.prog 12 #[mp4.v, .int .i64 0, .int .i64 3] x fun e w' => e = .returned (.int .i64 7) ∧ Below x.heap.size x w' from by
          have := refLock_any mp4 0 3 x
          rwa [show mp4.at_ 3 0 3 = 7 from by decide] at this))
        have HN0 := hid (fun (x : World) => (show Calls Try.prog 13 #[mp4.v, .int .i64 1, .int .i64 0, .int .i64 0] x fun e w' => e = .returned (.int .i64 28) ∧ Below x.heap.size x w' from by
          have := refNode_any mp4 1 0 0 x
          rwa [show mp4.node 1 0 0 = 28 from by decide] at this))
        have HN1 := hid (fun (x : World) => (show Calls Try.prog 13 #[mp4.v, .int .i64 1, .int .i64 0, .int .i64 1] x fun e w' => e = .returned (.int .i64 29) ∧ Below x.heap.size x w' from by
          have := refNode_any mp4 1 0 1 x
          rwa [show mp4.node 1 0 1 = 29 from by decide] at this))
        have HN2 := hid (fun (x : World) => (show Calls Try.prog 13 #[mp4.v, .int .i64 2, .int .i64 0, .int .i64 0] x fun e w' => e = .returned (.int .i64 32) ∧ Below x.heap.size x w' from by
          have := refNode_any mp4 2 0 0 x
          rwa [show mp4.node 2 0 0 = 32 from by decide] at this))
        have HN3 := hid (fun (x : World) => (show Calls Try.prog 13 #[mp4.v, .int .i64 2, .int .i64 0, .int .i64 1] x fun e w' => e = .returned (.int .i64 33) ∧ Below x.heap.size x w' from by
          have := refNode_any mp4 2 0 1 x
          rwa [show mp4.node 2 0 1 = 33 from by decide] at this))
        refine wp_region_later_tail 26 (by kernel_rfl) (by kernel_rfl) ?_
        simp only [List.take_succ_cons, List.take_zero, List.drop_succ_cons, List.drop_zero]
        repeat (go_big_quiet_step (first | (go_at_call 12; first | (with_reducible exact later_call (HL0.out _)) | (with_reducible exact later_call (HL3.out _))) | (go_at_call 13; first | (with_reducible exact later_call (HN0.out _)) | (with_reducible exact later_call (HN1.out _)) | (with_reducible exact later_call (HN2.out _)) | (with_reducible exact later_call (HN3.out _)))))
        refine wpQuiet_nil ?_
        rintro _ ⟨xq, rfl⟩
        have HK9 := hid (HK.out.later xq.below)
        clear n0 n1 n2 n3 n4 zn
        go_wp2_with fail
        go_meet
        case rel => exact ⟨_, rfl, HK9.out.later (bnew (bid xq.v) _), RowV.below (HW.out.below xq.below) (bnew (bid xq.v) _), RowV.six xq.v (fun k => .int .i64 (wpl 0 1 k : Nat)), by have := HK9.out.row.lt.2; omega⟩
      · have HL0 := hid (fun (x : World) => (show Calls Try.prog 12 #[mp4.v, .int .i64 0, .int .i64 0] x fun e w' => e = .returned (.int .i64 4) ∧ Below x.heap.size x w' from by
          have := refLock_any mp4 0 0 x
          rwa [show mp4.at_ 3 0 0 = 4 from by decide] at this))
        have HL3 := hid (fun (x : World) => (show Calls Try.prog 12 #[mp4.v, .int .i64 0, .int .i64 3] x fun e w' => e = .returned (.int .i64 7) ∧ Below x.heap.size x w' from by
          have := refLock_any mp4 0 3 x
          rwa [show mp4.at_ 3 0 3 = 7 from by decide] at this))
        have HN0 := hid (fun (x : World) => (show Calls Try.prog 13 #[mp4.v, .int .i64 2, .int .i64 0, .int .i64 0] x fun e w' => e = .returned (.int .i64 32) ∧ Below x.heap.size x w' from by
          have := refNode_any mp4 2 0 0 x
          rwa [show mp4.node 2 0 0 = 32 from by decide] at this))
        have HN1 := hid (fun (x : World) => (show Calls Try.prog 13 #[mp4.v, .int .i64 2, .int .i64 0, .int .i64 1] x fun e w' => e = .returned (.int .i64 33) ∧ Below x.heap.size x w' from by
          have := refNode_any mp4 2 0 1 x
          rwa [show mp4.node 2 0 1 = 33 from by decide] at this))
        have HN2 := hid (fun (x : World) => (show Calls Try.prog 13 #[mp4.v, .int .i64 3, .int .i64 0, .int .i64 0] x fun e w' => e = .returned (.int .i64 36) ∧ Below x.heap.size x w' from by
          have := refNode_any mp4 3 0 0 x
          rwa [show mp4.node 3 0 0 = 36 from by decide] at this))
        have HN3 := hid (fun (x : World) => (show Calls Try.prog 13 #[mp4.v, .int .i64 3, .int .i64 0, .int .i64 1] x fun e w' => e = .returned (.int .i64 37) ∧ Below x.heap.size x w' from by
          have := refNode_any mp4 3 0 1 x
          rwa [show mp4.node 3 0 1 = 37 from by decide] at this))
        refine wp_region_later_tail 26 (by kernel_rfl) (by kernel_rfl) ?_
        simp only [List.take_succ_cons, List.take_zero, List.drop_succ_cons, List.drop_zero]
        repeat (go_big_quiet_step (first | (go_at_call 12; first | (with_reducible exact later_call (HL0.out _)) | (with_reducible exact later_call (HL3.out _))) | (go_at_call 13; first | (with_reducible exact later_call (HN0.out _)) | (with_reducible exact later_call (HN1.out _)) | (with_reducible exact later_call (HN2.out _)) | (with_reducible exact later_call (HN3.out _)))))
        refine wpQuiet_nil ?_
        rintro _ ⟨xq, rfl⟩
        have HK9 := hid (HK.out.later xq.below)
        clear n0 n1 n2 n3 n4 zn
        go_wp2_with fail
        go_meet
        case rel => exact ⟨_, rfl, HK9.out.later (bnew (bid xq.v) _), RowV.below (HW.out.below xq.below) (bnew (bid xq.v) _), RowV.six xq.v (fun k => .int .i64 (wpl 0 2 k : Nat)), by have := HK9.out.row.lt.2; omega⟩
      · have HL0 := hid (fun (x : World) => (show Calls Try.prog 12 #[mp4.v, .int .i64 0, .int .i64 0] x fun e w' => e = .returned (.int .i64 4) ∧ Below x.heap.size x w' from by
          have := refLock_any mp4 0 0 x
          rwa [show mp4.at_ 3 0 0 = 4 from by decide] at this))
        have HL3 := hid (fun (x : World) => (show Calls Try.prog 12 #[mp4.v, .int .i64 0, .int .i64 3] x fun e w' => e = .returned (.int .i64 7) ∧ Below x.heap.size x w' from by
          have := refLock_any mp4 0 3 x
          rwa [show mp4.at_ 3 0 3 = 7 from by decide] at this))
        have HN0 := hid (fun (x : World) => (show Calls Try.prog 13 #[mp4.v, .int .i64 3, .int .i64 0, .int .i64 0] x fun e w' => e = .returned (.int .i64 36) ∧ Below x.heap.size x w' from by
          have := refNode_any mp4 3 0 0 x
          rwa [show mp4.node 3 0 0 = 36 from by decide] at this))
        have HN1 := hid (fun (x : World) => (show Calls Try.prog 13 #[mp4.v, .int .i64 3, .int .i64 0, .int .i64 1] x fun e w' => e = .returned (.int .i64 37) ∧ Below x.heap.size x w' from by
          have := refNode_any mp4 3 0 1 x
          rwa [show mp4.node 3 0 1 = 37 from by decide] at this))
        have HN2 := hid (fun (x : World) => (show Calls Try.prog 13 #[mp4.v, .int .i64 0, .int .i64 0, .int .i64 0] x fun e w' => e = .returned (.int .i64 24) ∧ Below x.heap.size x w' from by
          have := refNode_any mp4 0 0 0 x
          rwa [show mp4.node 0 0 0 = 24 from by decide] at this))
        have HN3 := hid (fun (x : World) => (show Calls Try.prog 13 #[mp4.v, .int .i64 0, .int .i64 0, .int .i64 1] x fun e w' => e = .returned (.int .i64 25) ∧ Below x.heap.size x w' from by
          have := refNode_any mp4 0 0 1 x
          rwa [show mp4.node 0 0 1 = 25 from by decide] at this))
        refine wp_region_later_tail 26 (by kernel_rfl) (by kernel_rfl) ?_
        simp only [List.take_succ_cons, List.take_zero, List.drop_succ_cons, List.drop_zero]
        repeat (go_big_quiet_step (first | (go_at_call 12; first | (with_reducible exact later_call (HL0.out _)) | (with_reducible exact later_call (HL3.out _))) | (go_at_call 13; first | (with_reducible exact later_call (HN0.out _)) | (with_reducible exact later_call (HN1.out _)) | (with_reducible exact later_call (HN2.out _)) | (with_reducible exact later_call (HN3.out _)))))
        refine wpQuiet_nil ?_
        rintro _ ⟨xq, rfl⟩
        have HK9 := hid (HK.out.later xq.below)
        clear n0 n1 n2 n3 n4 zn
        go_wp2_with fail
        go_meet
        case rel => exact ⟨_, rfl, HK9.out.later (bnew (bid xq.v) _), RowV.below (HW.out.below xq.below) (bnew (bid xq.v) _), RowV.six xq.v (fun k => .int .i64 (wpl 0 3 k : Nat)), by have := HK9.out.row.lt.2; omega⟩
      · have HL0 := hid (fun (x : World) => (show Calls Try.prog 12 #[mp4.v, .int .i64 1, .int .i64 0] x fun e w' => e = .returned (.int .i64 10) ∧ Below x.heap.size x w' from by
          have := refLock_any mp4 1 0 x
          rwa [show mp4.at_ 3 1 0 = 10 from by decide] at this))
        have HL3 := hid (fun (x : World) => (show Calls Try.prog 12 #[mp4.v, .int .i64 1, .int .i64 3] x fun e w' => e = .returned (.int .i64 13) ∧ Below x.heap.size x w' from by
          have := refLock_any mp4 1 3 x
          rwa [show mp4.at_ 3 1 3 = 13 from by decide] at this))
        have HN0 := hid (fun (x : World) => (show Calls Try.prog 13 #[mp4.v, .int .i64 0, .int .i64 1, .int .i64 0] x fun e w' => e = .returned (.int .i64 26) ∧ Below x.heap.size x w' from by
          have := refNode_any mp4 0 1 0 x
          rwa [show mp4.node 0 1 0 = 26 from by decide] at this))
        have HN1 := hid (fun (x : World) => (show Calls Try.prog 13 #[mp4.v, .int .i64 0, .int .i64 1, .int .i64 1] x fun e w' => e = .returned (.int .i64 27) ∧ Below x.heap.size x w' from by
          have := refNode_any mp4 0 1 1 x
          rwa [show mp4.node 0 1 1 = 27 from by decide] at this))
        have HN2 := hid (fun (x : World) => (show Calls Try.prog 13 #[mp4.v, .int .i64 1, .int .i64 1, .int .i64 0] x fun e w' => e = .returned (.int .i64 30) ∧ Below x.heap.size x w' from by
          have := refNode_any mp4 1 1 0 x
          rwa [show mp4.node 1 1 0 = 30 from by decide] at this))
        have HN3 := hid (fun (x : World) => (show Calls Try.prog 13 #[mp4.v, .int .i64 1, .int .i64 1, .int .i64 1] x fun e w' => e = .returned (.int .i64 31) ∧ Below x.heap.size x w' from by
          have := refNode_any mp4 1 1 1 x
          rwa [show mp4.node 1 1 1 = 31 from by decide] at this))
        refine wp_region_later_tail 26 (by kernel_rfl) (by kernel_rfl) ?_
        simp only [List.take_succ_cons, List.take_zero, List.drop_succ_cons, List.drop_zero]
        repeat (go_big_quiet_step (first | (go_at_call 12; first | (with_reducible exact later_call (HL0.out _)) | (with_reducible exact later_call (HL3.out _))) | (go_at_call 13; first | (with_reducible exact later_call (HN0.out _)) | (with_reducible exact later_call (HN1.out _)) | (with_reducible exact later_call (HN2.out _)) | (with_reducible exact later_call (HN3.out _)))))
        refine wpQuiet_nil ?_
        rintro _ ⟨xq, rfl⟩
        have HK9 := hid (HK.out.later xq.below)
        clear n0 n1 n2 n3 n4 zn
        go_wp2_with fail
        go_meet
        case rel => exact ⟨_, rfl, HK9.out.later (bnew (bid xq.v) _), RowV.below (HW.out.below xq.below) (bnew (bid xq.v) _), RowV.six xq.v (fun k => .int .i64 (wpl 1 0 k : Nat)), by have := HK9.out.row.lt.2; omega⟩
      · have HL0 := hid (fun (x : World) => (show Calls Try.prog 12 #[mp4.v, .int .i64 1, .int .i64 0] x fun e w' => e = .returned (.int .i64 10) ∧ Below x.heap.size x w' from by
          have := refLock_any mp4 1 0 x
          rwa [show mp4.at_ 3 1 0 = 10 from by decide] at this))
        have HL3 := hid (fun (x : World) => (show Calls Try.prog 12 #[mp4.v, .int .i64 1, .int .i64 3] x fun e w' => e = .returned (.int .i64 13) ∧ Below x.heap.size x w' from by
          have := refLock_any mp4 1 3 x
          rwa [show mp4.at_ 3 1 3 = 13 from by decide] at this))
        have HN0 := hid (fun (x : World) => (show Calls Try.prog 13 #[mp4.v, .int .i64 1, .int .i64 1, .int .i64 0] x fun e w' => e = .returned (.int .i64 30) ∧ Below x.heap.size x w' from by
          have := refNode_any mp4 1 1 0 x
          rwa [show mp4.node 1 1 0 = 30 from by decide] at this))
        have HN1 := hid (fun (x : World) => (show Calls Try.prog 13 #[mp4.v, .int .i64 1, .int .i64 1, .int .i64 1] x fun e w' => e = .returned (.int .i64 31) ∧ Below x.heap.size x w' from by
          have := refNode_any mp4 1 1 1 x
          rwa [show mp4.node 1 1 1 = 31 from by decide] at this))
        have HN2 := hid (fun (x : World) => (show Calls Try.prog 13 #[mp4.v, .int .i64 2, .int .i64 1, .int .i64 0] x fun e w' => e = .returned (.int .i64 34) ∧ Below x.heap.size x w' from by
          have := refNode_any mp4 2 1 0 x
          rwa [show mp4.node 2 1 0 = 34 from by decide] at this))
        have HN3 := hid (fun (x : World) => (show Calls Try.prog 13 #[mp4.v, .int .i64 2, .int .i64 1, .int .i64 1] x fun e w' => e = .returned (.int .i64 35) ∧ Below x.heap.size x w' from by
          have := refNode_any mp4 2 1 1 x
          rwa [show mp4.node 2 1 1 = 35 from by decide] at this))
        refine wp_region_later_tail 26 (by kernel_rfl) (by kernel_rfl) ?_
        simp only [List.take_succ_cons, List.take_zero, List.drop_succ_cons, List.drop_zero]
        repeat (go_big_quiet_step (first | (go_at_call 12; first | (with_reducible exact later_call (HL0.out _)) | (with_reducible exact later_call (HL3.out _))) | (go_at_call 13; first | (with_reducible exact later_call (HN0.out _)) | (with_reducible exact later_call (HN1.out _)) | (with_reducible exact later_call (HN2.out _)) | (with_reducible exact later_call (HN3.out _)))))
        refine wpQuiet_nil ?_
        rintro _ ⟨xq, rfl⟩
        have HK9 := hid (HK.out.later xq.below)
        clear n0 n1 n2 n3 n4 zn
        go_wp2_with fail
        go_meet
        case rel => exact ⟨_, rfl, HK9.out.later (bnew (bid xq.v) _), RowV.below (HW.out.below xq.below) (bnew (bid xq.v) _), RowV.six xq.v (fun k => .int .i64 (wpl 1 1 k : Nat)), by have := HK9.out.row.lt.2; omega⟩
      · have HL0 := hid (fun (x : World) => (show Calls Try.prog 12 #[mp4.v, .int .i64 1, .int .i64 0] x fun e w' => e = .returned (.int .i64 10) ∧ Below x.heap.size x w' from by
          have := refLock_any mp4 1 0 x
          rwa [show mp4.at_ 3 1 0 = 10 from by decide] at this))
        have HL3 := hid (fun (x : World) => (show Calls Try.prog 12 #[mp4.v, .int .i64 1, .int .i64 3] x fun e w' => e = .returned (.int .i64 13) ∧ Below x.heap.size x w' from by
          have := refLock_any mp4 1 3 x
          rwa [show mp4.at_ 3 1 3 = 13 from by decide] at this))
        have HN0 := hid (fun (x : World) => (show Calls Try.prog 13 #[mp4.v, .int .i64 2, .int .i64 1, .int .i64 0] x fun e w' => e = .returned (.int .i64 34) ∧ Below x.heap.size x w' from by
          have := refNode_any mp4 2 1 0 x
          rwa [show mp4.node 2 1 0 = 34 from by decide] at this))
        have HN1 := hid (fun (x : World) => (show Calls Try.prog 13 #[mp4.v, .int .i64 2, .int .i64 1, .int .i64 1] x fun e w' => e = .returned (.int .i64 35) ∧ Below x.heap.size x w' from by
          have := refNode_any mp4 2 1 1 x
          rwa [show mp4.node 2 1 1 = 35 from by decide] at this))
        have HN2 := hid (fun (x : World) => (show Calls Try.prog 13 #[mp4.v, .int .i64 3, .int .i64 1, .int .i64 0] x fun e w' => e = .returned (.int .i64 38) ∧ Below x.heap.size x w' from by
          have := refNode_any mp4 3 1 0 x
          rwa [show mp4.node 3 1 0 = 38 from by decide] at this))
        have HN3 := hid (fun (x : World) => (show Calls Try.prog 13 #[mp4.v, .int .i64 3, .int .i64 1, .int .i64 1] x fun e w' => e = .returned (.int .i64 39) ∧ Below x.heap.size x w' from by
          have := refNode_any mp4 3 1 1 x
          rwa [show mp4.node 3 1 1 = 39 from by decide] at this))
        refine wp_region_later_tail 26 (by kernel_rfl) (by kernel_rfl) ?_
        simp only [List.take_succ_cons, List.take_zero, List.drop_succ_cons, List.drop_zero]
        repeat (go_big_quiet_step (first | (go_at_call 12; first | (with_reducible exact later_call (HL0.out _)) | (with_reducible exact later_call (HL3.out _))) | (go_at_call 13; first | (with_reducible exact later_call (HN0.out _)) | (with_reducible exact later_call (HN1.out _)) | (with_reducible exact later_call (HN2.out _)) | (with_reducible exact later_call (HN3.out _)))))
        refine wpQuiet_nil ?_
        rintro _ ⟨xq, rfl⟩
        have HK9 := hid (HK.out.later xq.below)
        clear n0 n1 n2 n3 n4 zn
        go_wp2_with fail
        go_meet
        case rel => exact ⟨_, rfl, HK9.out.later (bnew (bid xq.v) _), RowV.below (HW.out.below xq.below) (bnew (bid xq.v) _), RowV.six xq.v (fun k => .int .i64 (wpl 1 2 k : Nat)), by have := HK9.out.row.lt.2; omega⟩
      · have HL0 := hid (fun (x : World) => (show Calls Try.prog 12 #[mp4.v, .int .i64 1, .int .i64 0] x fun e w' => e = .returned (.int .i64 10) ∧ Below x.heap.size x w' from by
          have := refLock_any mp4 1 0 x
          rwa [show mp4.at_ 3 1 0 = 10 from by decide] at this))
        have HL3 := hid (fun (x : World) => (show Calls Try.prog 12 #[mp4.v, .int .i64 1, .int .i64 3] x fun e w' => e = .returned (.int .i64 13) ∧ Below x.heap.size x w' from by
          have := refLock_any mp4 1 3 x
          rwa [show mp4.at_ 3 1 3 = 13 from by decide] at this))
        have HN0 := hid (fun (x : World) => (show Calls Try.prog 13 #[mp4.v, .int .i64 3, .int .i64 1, .int .i64 0] x fun e w' => e = .returned (.int .i64 38) ∧ Below x.heap.size x w' from by
          have := refNode_any mp4 3 1 0 x
          rwa [show mp4.node 3 1 0 = 38 from by decide] at this))
        have HN1 := hid (fun (x : World) => (show Calls Try.prog 13 #[mp4.v, .int .i64 3, .int .i64 1, .int .i64 1] x fun e w' => e = .returned (.int .i64 39) ∧ Below x.heap.size x w' from by
          have := refNode_any mp4 3 1 1 x
          rwa [show mp4.node 3 1 1 = 39 from by decide] at this))
        have HN2 := hid (fun (x : World) => (show Calls Try.prog 13 #[mp4.v, .int .i64 0, .int .i64 1, .int .i64 0] x fun e w' => e = .returned (.int .i64 26) ∧ Below x.heap.size x w' from by
          have := refNode_any mp4 0 1 0 x
          rwa [show mp4.node 0 1 0 = 26 from by decide] at this))
        have HN3 := hid (fun (x : World) => (show Calls Try.prog 13 #[mp4.v, .int .i64 0, .int .i64 1, .int .i64 1] x fun e w' => e = .returned (.int .i64 27) ∧ Below x.heap.size x w' from by
          have := refNode_any mp4 0 1 1 x
          rwa [show mp4.node 0 1 1 = 27 from by decide] at this))
        refine wp_region_later_tail 26 (by kernel_rfl) (by kernel_rfl) ?_
        simp only [List.take_succ_cons, List.take_zero, List.drop_succ_cons, List.drop_zero]
        repeat (go_big_quiet_step (first | (go_at_call 12; first | (with_reducible exact later_call (HL0.out _)) | (with_reducible exact later_call (HL3.out _))) | (go_at_call 13; first | (with_reducible exact later_call (HN0.out _)) | (with_reducible exact later_call (HN1.out _)) | (with_reducible exact later_call (HN2.out _)) | (with_reducible exact later_call (HN3.out _)))))
        refine wpQuiet_nil ?_
        rintro _ ⟨xq, rfl⟩
        have HK9 := hid (HK.out.later xq.below)
        clear n0 n1 n2 n3 n4 zn
        go_wp2_with fail
        go_meet
        case rel => exact ⟨_, rfl, HK9.out.later (bnew (bid xq.v) _), RowV.below (HW.out.below xq.below) (bnew (bid xq.v) _), RowV.six xq.v (fun k => .int .i64 (wpl 1 3 k : Nat)), by have := HK9.out.row.lt.2; omega⟩
    case rest =>
      obtain ⟨qat, rfl, hk, hw, ha, hne⟩ := hcut
      have HK := hid (show LwAt w q qf qh gl qw qat h xs (wpl lk t) (zrow 48) _ from ⟨hk, hw, ha, ⟨HNE.out, hne⟩⟩)
      clear hk hw ha hne HNE HW
      have HPL := hid (fun k => wpl_lt hlk htk k)
      have HP1 := hid (wpl_one hlk t)
      generalize wpl lk t = ps at *
      clear htk
      go_wp2_with fail
      go_loopw [15] (fun i W => ∃ j : Nat, j ≤ 6 ∧ i = .int .i64 j ∧ ∃ zs, LwAt w q qf qh gl qw qat h xs ps zs W) (fun i _ => 6 - (intOf i).toNat)
      case atStart => exact ⟨0, by omega, rfl, _, HK.out⟩
      case round =>
        clear HK
        obtain ⟨j, hj, rfl, zs, hL⟩ := hrel
        have HK := hid hL
        clear hL
        by_cases hlt : j < 6
        · have i1 : (0 : Int) ≤ (j : Int) := by omega
          have i2 : (j : Int) < 6 := by omega
          obtain ⟨c0, cf⟩ := HK.out.ws.facts hlt
          obtain ⟨p0, pf⟩ := HK.out.ats.facts hlt
          have hp48 := HPL.out j
          obtain ⟨g0, gf⟩ := HK.out.ls.cell hp48
          have zg := HK.out.ls.row.lt.2
          have zc := HK.out.ws.lt
          have zp := HK.out.ats.lt
          have HST := hid (fun v => HK.out.store (ps j) v)
          generalize xs j = z at c0
          have p1 : (0 : Int) ≤ (ps j : Int) := by omega
          have p2 : (ps j : Int) < 48 := by omega
          generalize ps j = p at *
          go_upto_region 11 with fail
          go_region
          all_goals
            go_wp2_with fail
            go_roundw
            case rel => exact ⟨j + 1, by omega, by go_num, _, (HST.out _).later (bdrew (bid _))⟩
            case measure => simp [intOf]; omega
        · obtain rfl : j = 6 := by omega
          have hlen48 := HK.out.ls.len
          have HROW := hid (show IntRow wr (some ⟨gl, 0, none⟩) 48 zs from by have := HK.out.ls.row; unfold Ints at this; rw [hlen48] at this; exact IntRow.of_own (by simpa [hlen48] using this))
          go_upto_region 15 with (first | (go_at_call 14; (with_reducible refine (New_any _ _ _ _ _ HROW.out (by decide)).mono ?_); rintro e w3 ⟨b, vw, rfl, hm, hb3⟩; have HM := hid hm; have HB3 := hid hb3; clear hm hb3) | (go_at_call 15; (with_reducible refine (RefNew_any _ _ _ _ _ (HROW.out.below HB3.out) (by decide) (fun h => by cases h)).mono ?_); rintro e w4 ⟨c, vr, rfl, hm2, hb4⟩; have HM2 := hid hm2; have HB4 := hid hb4; clear hm2 hb4))
          have HLEN := hid (show (MS.new zs).zs.length = 48 from hlen48)
          clear hlen48
          have HP := hid (show Pair w4 wr.heap.size b vw c vr (MS.new zs) (MS.new zs) from pair_new HM.out HM2.out HB4.out HB3.out.size)
          have HB34 := hid (bthen HB3.out HB4.out)
          have HOLD := hid (show (∀ k, MemS b vw k → k ≠ q ∧ k ≠ qf ∧ k ≠ qh) ∧ (∀ k, MemS c vr k → k ≠ q ∧ k ≠ qf ∧ k ≠ qh) from
            ⟨fun k hk => ⟨fun e => HM.out.old q HK.out.ls.map.lt (e ▸ hk), fun e => HM.out.old qf HK.out.ls.rmap.lt (e ▸ hk), fun e => HM.out.old qh HK.out.ls.box.lt (e ▸ hk)⟩,
              fun k hk => ⟨fun e => HM2.out.old q (Nat.lt_of_lt_of_le HK.out.ls.map.lt HB3.out.size) (e ▸ hk), fun e => HM2.out.old qf (Nat.lt_of_lt_of_le HK.out.ls.rmap.lt HB3.out.size) (e ▸ hk), fun e => HM2.out.old qh (Nat.lt_of_lt_of_le HK.out.ls.box.lt HB3.out.size) (e ▸ hk)⟩⟩)
          generalize MS.new zs = s at *
          clear HROW HM HM2 HB3 HB4
          -- the hand is copied twice
          have HMK2 := hid (fun (W' : World) (qa qb : Nat) (kb : Below wr.heap.size wr W') (hp : Pair W' wr.heap.size b vw c vr s s) (ka : HandAt W' qa h) (kb' : HandAt W' qb h) (na : w4.heap.size ≤ qa) (nb : w4.heap.size ≤ qb) (nab : qa ≠ qb) => (show AsAt wr q qf qh qa qb b vw c vr s s h h h W' from by
            have z1 := HK.out.ls.box.lt
            have z2 := HK.out.ls.map.lt
            have z3 := HK.out.ls.rmap.lt
            have z4 := HB34.out.size
            have hy := HP.out.young
            have hap := HP.out.apart
            have hol := HOLD.out
            have hne := HK.out.ls.ne
            refine ⟨HK.out.ls.map.below kb, HK.out.ls.rmap.below kb, HK.out.ls.box.below kb, hp, ka, kb', ?_, ⟨by omega, by omega⟩, kb⟩
            classical
            refine ⟨fun j => if j = q then 0 else if j = qf then 1 else if j = qh then 2 else if j = qa then 3 else if j = qb then 4 else if MemS b vw j then 5 else 6, ?_, ?_, ?_, ?_, ?_, fun j hj => ?_, fun j hj => ?_⟩
            · show (if q = q then 0 else _) = 0
              rw [if_pos rfl]
            · show (if qf = q then 0 else if qf = qf then 1 else _) = 1
              rw [if_neg (by omega), if_pos rfl]
            · show (if qh = q then 0 else if qh = qf then 1 else if qh = qh then 2 else _) = 2
              rw [if_neg (by omega), if_neg (by omega), if_pos rfl]
            · show (if qa = q then 0 else if qa = qf then 1 else if qa = qh then 2 else if qa = qa then 3 else _) = 3
              rw [if_neg (by omega), if_neg (by omega), if_neg (by omega), if_pos rfl]
            · show (if qb = q then 0 else if qb = qf then 1 else if qb = qh then 2 else if qb = qa then 3 else if qb = qb then 4 else _) = 4
              rw [if_neg (by omega), if_neg (by omega), if_neg (by omega), if_neg (by omega), if_pos rfl]
            · have g1 := hy j (.inl hj)
              have g2 := hol.1 j hj
              show (if j = q then 0 else if j = qf then 1 else if j = qh then 2 else if j = qa then 3 else if j = qb then 4 else if MemS b vw j then 5 else 6) = 5
              rw [if_neg g2.1, if_neg g2.2.1, if_neg g2.2.2, if_neg (by omega), if_neg (by omega), if_pos hj]
            · have g1 := hy j (.inr hj)
              have g2 := hol.2 j hj
              show (if j = q then 0 else if j = qf then 1 else if j = qh then 2 else if j = qa then 3 else if j = qb then 4 else if MemS b vw j then 5 else 6) = 6
              rw [if_neg g2.1, if_neg g2.2.1, if_neg g2.2.2, if_neg (by omega), if_neg (by omega), if_neg (fun e => hap j e hj)]))
          obtain ⟨ht, hl, hs, hr, hx⟩ := h
          obtain ⟨d0, d1, d2, d3, d4, df⟩ := (HK.out.ls.later HB34.out).box.facts
          have dz := (HK.out.ls.later HB34.out).box.lt
          go_cut [18, 19] (fun va vb W => ∃ qa qb, va = .pointer (some ⟨qa, 0, none⟩) ∧ vb = .pointer (some ⟨qb, 0, none⟩) ∧ AsAt wr q qf qh qa qb b vw c vr s s ⟨ht, hl, hs, hr, hx⟩ ⟨ht, hl, hs, hr, hx⟩ ⟨ht, hl, hs, hr, hx⟩ W)
          case first =>
            have HX := hid (show Below wr.heap.size wr ((w4.alloc (.cells (HD.mk ht hl hs hr hx).cells 24)).alloc (.cells (HD.mk ht hl hs hr hx).cells 24)).drew ∧ Pair ((w4.alloc (.cells (HD.mk ht hl hs hr hx).cells 24)).alloc (.cells (HD.mk ht hl hs hr hx).cells 24)).drew wr.heap.size b vw c vr s s ∧ HandAt ((w4.alloc (.cells (HD.mk ht hl hs hr hx).cells 24)).alloc (.cells (HD.mk ht hl hs hr hx).cells 24)).drew w4.heap.size ⟨ht, hl, hs, hr, hx⟩ ∧ HandAt ((w4.alloc (.cells (HD.mk ht hl hs hr hx).cells 24)).alloc (.cells (HD.mk ht hl hs hr hx).cells 24)).drew (w4.heap.size + 1) ⟨ht, hl, hs, hr, hx⟩ from by
              have hb := bdrew (bnew (bnew (bid w4) (.cells (HD.mk ht hl hs hr hx).cells 24)) (.cells (HD.mk ht hl hs hr hx).cells 24))
              have h1 := HandAt.new w4 ⟨ht, hl, hs, hr, hx⟩
              have h2 := HandAt.new (w4.alloc (.cells (HD.mk ht hl hs hr hx).cells 24)) ⟨ht, hl, hs, hr, hx⟩
              rw [size_alloc1] at h2
              exact ⟨bthen HB34.out hb, HP.out.below hb, h1.below (bdrew (bnew (bid _) _)), h2.below (bdrew (bid _))⟩)
            go_region
            all_goals
              go_wp2_with fail
              go_meet
              case rel => first | exact ⟨w4.heap.size, w4.heap.size + 1, rfl, rfl, HMK2.out _ _ _ HX.out.1 HX.out.2.1 HX.out.2.2.1 HX.out.2.2.2 (Nat.le_refl _) (by omega) (by omega)⟩ | exact ⟨w4.heap.size + 1, w4.heap.size, rfl, rfl, HMK2.out _ _ _ HX.out.1 HX.out.2.1 HX.out.2.2.2 HX.out.2.2.1 (by omega) (Nat.le_refl _) (by omega)⟩
          case rest =>
            clear HP HOLD HMK2 d0 d1 d2 d3 d4 df dz HB34
            obtain ⟨qa, qb, rfl, rfl, hk⟩ := hcut
            have HK0 := hid (show RowV 3 wr qat 6 (fun k => .int .i64 (ps k : Nat)) ∧ Below w.heap.size w wr from ⟨HK.out.ats, HK.out.ls.below⟩)
            clear HK
            have HK := hid hk
            clear hk
            generalize hh : (HD.mk ht hl hs hr hx) = h at *
            clear hh
            go_upto_if 90 with fail
            go_cut [] (fun W => ∃ s2 g2, s2.zs.length = 48 ∧ AsAt wr q qf qh qa qb b vw c vr s2 s2 h g2 g2 W)
            case first =>
              have HTK := hid (fun (x : World) (hm : Mem x wr.heap.size b vw s) => rwTake_any mp4 h x _ b vw s hm (by rw [mp4_size, HLEN.out]; decide))
              have HRT := hid (fun (x : World) (hm : Ref x wr.heap.size c vr s) => rrwTake_any mp4 h x _ c vr s hm (by rw [mp4_size, HLEN.out]; decide))
              have HDR := hid (fun (x : World) (hm : Mem x wr.heap.size b vw s) => rwDrop_any mp4 h x _ b vw s hm (by rw [mp4_size, HLEN.out]; decide))
              have HRD := hid (fun (x : World) (hm : Ref x wr.heap.size c vr s) => rrwDrop_any mp4 h x _ c vr s hm (by rw [mp4_size, HLEN.out]; decide))
              cases drop
              · go_upto_region 18 with fail
                have hne1 : Nonempty (Sat (fun W => ∃ s t ga gb, AsAt wr q qf qh qa qb b vw c vr s t h ga gb W)) := ⟨⟨_, _, _, _, _, HK.out⟩⟩
                have hne2 : Nonempty (Sat (fun _ => True)) := ⟨⟨w, trivial⟩⟩
                have hcells := fun (x : Sat (fun W => ∃ s t ga gb, AsAt wr q qf qh qa qb b vw c vr s t h ga gb W)) => AsAt.satCells x
                have y0 := fun x => (hcells x).1
                have y1 := fun x => (hcells x).2.1
                have y2 := fun x => (hcells x).2.2.1
                have y3 := fun x => (hcells x).2.2.2.1
                have y4 := fun x => (hcells x).2.2.2.2.1
                have y5 := fun x => (hcells x).2.2.2.2.2.1
                have y6 := fun x => (hcells x).2.2.2.2.2.2.1
                have y7 := fun x => (hcells x).2.2.2.2.2.2.2.1
                have y8 := fun x => (hcells x).2.2.2.2.2.2.2.2.1
                have y9 := fun x => (hcells x).2.2.2.2.2.2.2.2.2.1
                have y10 := fun x => (hcells x).2.2.2.2.2.2.2.2.2.2.1
                have y11 := fun x => (hcells x).2.2.2.2.2.2.2.2.2.2.2.1
                have y12 := fun x => (hcells x).2.2.2.2.2.2.2.2.2.2.2.2.1
                have y13 := fun x => (hcells x).2.2.2.2.2.2.2.2.2.2.2.2.2.1
                have y14 := fun x => (hcells x).2.2.2.2.2.2.2.2.2.2.2.2.2.2
                clear hcells
                refine wp_region_staged (AsD wr q qf qh qa qb b vw c vr s (rwTake mp4 s h).2 h (rwTake mp4 s h).1) (by kernel_rfl) (by kernel_rfl) (fun L hL => AsD.start hL HK.out) ?_
                refine wpS_plain (fun W => ∃ s t ga gb, AsAt wr q qf qh qa qb b vw c vr s t h ga gb W) (fun L W hL hcl hd => ⟨_, _, _, _, hd⟩) (fun _ _ h => h) rfl rfl ?_
                intro KK hKK
                go_big_quiet_op
                go_big_quiet_on
                refine wpS_plain (fun _ => True) (fun _ _ _ _ _ => trivial) (fun _ _ h => h) rfl rfl ?_
                intro KK hKK
                go_big_quiet_op
                go_big_quiet_on
                refine wpS_plain (fun W => ∃ s t ga gb, AsAt wr q qf qh qa qb b vw c vr s t h ga gb W) (fun L W hL hcl hd => ⟨_, _, _, _, hd⟩) (fun _ _ h => h) rfl rfl ?_
                intro KK hKK
                go_big_quiet_op
                go_big_quiet_on
                refine wpS_call 18 #[(PM.v mp4), .pointer (some ⟨b, 0, none⟩), h.v] (rwTake mp4 s h).1.v rfl (fun _ => by go_simp) ?_ ?_
                · intro L W hL hcl hd
                  have hd1 := AsD.at3 hd hL
                  refine (HTK.out _ hd1.pair.mem).mono ?_
                  rintro e w'' ⟨rfl, hm, hw⟩
                  exact ⟨rfl, hd1.one hm hw⟩
                (try simp only [Act.put, List.getElem_toArray, List.getElem_cons_zero, List.getElem_cons_succ, List.setIfInBounds_toArray, List.set_cons_zero, List.set_cons_succ])
                refine wpS_plain (fun W => ∃ s t ga gb, AsAt wr q qf qh qa qb b vw c vr s t h ga gb W) (fun L W hL hcl hd => ⟨_, _, _, _, hd⟩) (fun _ _ h => h) rfl rfl ?_
                intro KK hKK
                go_big_quiet_op
                go_big_quiet_on
                refine wpS_plain (fun _ => True) (fun _ _ _ _ _ => trivial) (fun _ _ h => h) rfl rfl ?_
                intro KK hKK
                go_big_quiet_op
                go_big_quiet_on
                refine wpS_plain (fun W => ∃ s t ga gb, AsAt wr q qf qh qa qb b vw c vr s t h ga gb W) (fun L W hL hcl hd => ⟨_, _, _, _, hd⟩) (fun _ _ h => h) rfl rfl ?_
                intro KK hKK
                go_big_quiet_op
                go_big_quiet_on
                refine wpS_call 19 #[(PM.v mp4), .pointer (some ⟨c, 0, none⟩), h.v] (rwTake mp4 s h).1.v rfl (fun _ => by go_simp) ?_ ?_
                · intro L W hL hcl hd
                  have hd1 := AsD.at7 hd hL
                  refine (HRT.out _ hd1.pair.ref).mono ?_
                  rintro e w'' ⟨rfl, hm, hw⟩
                  exact ⟨rfl, hd1.two hm hw⟩
                (try simp only [Act.put, List.getElem_toArray, List.getElem_cons_zero, List.getElem_cons_succ, List.setIfInBounds_toArray, List.set_cons_zero, List.set_cons_succ])
                refine wpS_store rfl ?_ ?_
                · intro L W hL hcl hd
                  have hd1 := AsD.at8 hd hL
                  obtain ⟨e0, e1, e2, e3, e4, ef⟩ := hd1.ah.facts
                  exact ⟨_, by go_simp, hd1.setA (rwTake mp4 s h).1⟩
                (try simp only [Act.put, List.getElem_toArray, List.getElem_cons_zero, List.getElem_cons_succ, List.setIfInBounds_toArray, List.set_cons_zero, List.set_cons_succ])
                refine wpS_store rfl ?_ ?_
                · intro L W hL hcl hd
                  have hd1 := AsD.at9 hd hL
                  obtain ⟨e0, e1, e2, e3, e4, ef⟩ := hd1.bh.facts
                  exact ⟨_, by go_simp, hd1.setB (rwTake mp4 s h).1⟩
                (try simp only [Act.put, List.getElem_toArray, List.getElem_cons_zero, List.getElem_cons_succ, List.setIfInBounds_toArray, List.set_cons_zero, List.set_cons_succ])
                intro L W hall hd
                have HK9 := hid (AsD.end_ hall hd)
                clear hd hall y0 y1 y2 y3 y4 y5 y6 y7 y8 y9 y10 y11 y12 y13 y14 hne1 hne2
                go_wp2_with fail
                go_meet
                case rel => exact ⟨_, _, by rw [len_rwTake]; exact HLEN.out, HK9.out⟩
              · go_upto_region 17 with fail
                have hne1 : Nonempty (Sat (fun W => ∃ s t ga gb, AsAt wr q qf qh qa qb b vw c vr s t h ga gb W)) := ⟨⟨_, _, _, _, _, HK.out⟩⟩
                have hne2 : Nonempty (Sat (fun _ => True)) := ⟨⟨w, trivial⟩⟩
                have hcells := fun (x : Sat (fun W => ∃ s t ga gb, AsAt wr q qf qh qa qb b vw c vr s t h ga gb W)) => AsAt.satCells x
                have y0 := fun x => (hcells x).1
                have y1 := fun x => (hcells x).2.1
                have y2 := fun x => (hcells x).2.2.1
                have y3 := fun x => (hcells x).2.2.2.1
                have y4 := fun x => (hcells x).2.2.2.2.1
                have y5 := fun x => (hcells x).2.2.2.2.2.1
                have y6 := fun x => (hcells x).2.2.2.2.2.2.1
                have y7 := fun x => (hcells x).2.2.2.2.2.2.2.1
                have y8 := fun x => (hcells x).2.2.2.2.2.2.2.2.1
                have y9 := fun x => (hcells x).2.2.2.2.2.2.2.2.2.1
                have y10 := fun x => (hcells x).2.2.2.2.2.2.2.2.2.2.1
                have y11 := fun x => (hcells x).2.2.2.2.2.2.2.2.2.2.2.1
                have y12 := fun x => (hcells x).2.2.2.2.2.2.2.2.2.2.2.2.1
                have y13 := fun x => (hcells x).2.2.2.2.2.2.2.2.2.2.2.2.2.1
                have y14 := fun x => (hcells x).2.2.2.2.2.2.2.2.2.2.2.2.2.2
                clear hcells
                refine wp_region_staged (AsD wr q qf qh qa qb b vw c vr s (rwDrop mp4 s h).2 h (rwDrop mp4 s h).1) (by kernel_rfl) (by kernel_rfl) (fun L hL => AsD.start hL HK.out) ?_
                refine wpS_plain (fun W => ∃ s t ga gb, AsAt wr q qf qh qa qb b vw c vr s t h ga gb W) (fun L W hL hcl hd => ⟨_, _, _, _, hd⟩) (fun _ _ h => h) rfl rfl ?_
                intro KK hKK
                go_big_quiet_op
                go_big_quiet_on
                refine wpS_plain (fun _ => True) (fun _ _ _ _ _ => trivial) (fun _ _ h => h) rfl rfl ?_
                intro KK hKK
                go_big_quiet_op
                go_big_quiet_on
                refine wpS_plain (fun W => ∃ s t ga gb, AsAt wr q qf qh qa qb b vw c vr s t h ga gb W) (fun L W hL hcl hd => ⟨_, _, _, _, hd⟩) (fun _ _ h => h) rfl rfl ?_
                intro KK hKK
                go_big_quiet_op
                go_big_quiet_on
                refine wpS_call 16 #[(PM.v mp4), .pointer (some ⟨b, 0, none⟩), h.v] (rwDrop mp4 s h).1.v rfl (fun _ => by go_simp) ?_ ?_
                · intro L W hL hcl hd
                  have hd1 := AsD.at3 hd hL
                  refine (HDR.out _ hd1.pair.mem).mono ?_
                  rintro e w'' ⟨rfl, hm, hw⟩
                  exact ⟨rfl, hd1.one hm hw⟩
                (try simp only [Act.put, List.getElem_toArray, List.getElem_cons_zero, List.getElem_cons_succ, List.setIfInBounds_toArray, List.set_cons_zero, List.set_cons_succ])
                refine wpS_plain (fun W => ∃ s t ga gb, AsAt wr q qf qh qa qb b vw c vr s t h ga gb W) (fun L W hL hcl hd => ⟨_, _, _, _, hd⟩) (fun _ _ h => h) rfl rfl ?_
                intro KK hKK
                go_big_quiet_op
                go_big_quiet_on
                refine wpS_plain (fun _ => True) (fun _ _ _ _ _ => trivial) (fun _ _ h => h) rfl rfl ?_
                intro KK hKK
                go_big_quiet_op
                go_big_quiet_on
                refine wpS_plain (fun W => ∃ s t ga gb, AsAt wr q qf qh qa qb b vw c vr s t h ga gb W) (fun L W hL hcl hd => ⟨_, _, _, _, hd⟩) (fun _ _ h => h) rfl rfl ?_
                intro KK hKK
                go_big_quiet_op
                go_big_quiet_on
                refine wpS_call 17 #[(PM.v mp4), .pointer (some ⟨c, 0, none⟩), h.v] (rwDrop mp4 s h).1.v rfl (fun _ => by go_simp) ?_ ?_
                · intro L W hL hcl hd
                  have hd1 := AsD.at7 hd hL
                  refine (HRD.out _ hd1.pair.ref).mono ?_
                  rintro e w'' ⟨rfl, hm, hw⟩
                  exact ⟨rfl, hd1.two hm hw⟩
                (try simp only [Act.put, List.getElem_toArray, List.getElem_cons_zero, List.getElem_cons_succ, List.setIfInBounds_toArray, List.set_cons_zero, List.set_cons_succ])
                refine wpS_store rfl ?_ ?_
                · intro L W hL hcl hd
                  have hd1 := AsD.at8 hd hL
                  obtain ⟨e0, e1, e2, e3, e4, ef⟩ := hd1.ah.facts
                  exact ⟨_, by go_simp, hd1.setA (rwDrop mp4 s h).1⟩
                (try simp only [Act.put, List.getElem_toArray, List.getElem_cons_zero, List.getElem_cons_succ, List.setIfInBounds_toArray, List.set_cons_zero, List.set_cons_succ])
                refine wpS_store rfl ?_ ?_
                · intro L W hL hcl hd
                  have hd1 := AsD.at9 hd hL
                  obtain ⟨e0, e1, e2, e3, e4, ef⟩ := hd1.bh.facts
                  exact ⟨_, by go_simp, hd1.setB (rwDrop mp4 s h).1⟩
                (try simp only [Act.put, List.getElem_toArray, List.getElem_cons_zero, List.getElem_cons_succ, List.setIfInBounds_toArray, List.set_cons_zero, List.set_cons_succ])
                intro L W hall hd
                have HK9 := hid (AsD.end_ hall hd)
                clear hd hall y0 y1 y2 y3 y4 y5 y6 y7 y8 y9 y10 y11 y12 y13 y14 hne1 hne2
                go_wp2_with fail
                go_meet
                case rel => exact ⟨_, _, by rw [len_rwDrop]; exact HLEN.out, HK9.out⟩
            case rest =>
              clear HK
              obtain ⟨s2, g2, hL2, hk⟩ := hcut
              have HL2 := hid hL2
              have HK := hid hk
              clear hL2 hk
              obtain ⟨gt, gl', gs, gr, gx⟩ := g2
              obtain ⟨m0, m1, m2, m3, m4, zm⟩ := HK.out.map.facts
              obtain ⟨n0, n1, n2, n3, n4, zn⟩ := HK.out.rmap.facts
              obtain ⟨a0', a1, a2, a3, a4, af⟩ := HK.out.ah.facts
              obtain ⟨b0, b1, b2, b3, b4, bf⟩ := HK.out.bh.facts
              have za := HK.out.ah.lt
              have zb := HK.out.bh.lt
              obtain ⟨t1, tf⟩ := (HK0.out.1.below HK.out.below).facts (k := 1) (by decide)
              have zt := (HK0.out.1.below HK.out.below).lt
              have heq := eq_hand
              have hg := guard_hand
              have hsame : sameH ⟨gt, gl', gs, gr, gx⟩ ⟨gt, gl', gs, gr, gx⟩ = true := sameH_refl _
              have HIN := hid (fun (x : World) (hm : Mem x wr.heap.size b vw s2) => (show Calls Try.prog 23 #[mp4.v, .pointer (some ⟨b, 0, none⟩), .int .i64 (lk : Int)] x fun e w' => e = .returned (.int .i64 (s2.vAt (ps 1 : Nat))) ∧ Below x.heap.size x w' from by
                have := Inside_any mp4 lk x _ b vw s2 hm (by rw [mp4_size, HL2.out]; decide)
                rwa [HP1.out] at this))
              have HPK := hid (fun (x : World) (hm : Ref x wr.heap.size c vr s2) => rPeek_at (ps 1 : Nat) x _ c vr s2 hm)
              generalize s2.vAt (ps 1 : Nat) = iv at *
              generalize (ps 1 : Nat) = p1 at *
              go_upto_region 19 with fail
              refine wp_region_later (by kernel_rfl) (by kernel_rfl) ?_
              repeat (go_big_quiet_step (first | (go_at_call 20; with_reducible exact later_call (told10_any _)) | (go_at_call 21; with_reducible exact later_call (Same_yes _ _ _ _ _ _ _ _ _ (HK.out.later (Later.below _)).pair.mem (HK.out.later (Later.below _)).pair.ref rfl (by rw [HL2.out]; decide))) | (go_at_call 22; with_reducible exact later_call (Like_yes _ _ _ _ _ _ _ (HK.out.later (Later.below _)).pair)) | (go_at_call 23; with_reducible exact later_call (HIN.out _ (HK.out.later (Later.below _)).pair.mem)) | (go_at_call 24; with_reducible exact later_same (HPK.out _ (HK.out.later (Later.below _)).pair.ref))))
              refine wpQuiet_nil ?_
              rintro _ ⟨xq, rfl⟩
              have HK3 := hid (HK.out.later xq.below)
              go_wp2_with fail
              go_ret
              exact ⟨rfl, bthen HK0.out.2 HK3.out.below⟩

end Go.Proofs.Ytmcmajndcbobpaa
