/-
  McsAsks: each step of any hand, at any words, is what the document says.
-/
import Derived.Test.YtmngpgocpamfgaaAsAt
import Derived.Test.YtmngpgocpamfgaaMcAt
namespace Go.Proofs.Ytmngpgocpamfgaa
open Go.RowKit
attribute [local go_sem] Later.cell Later.frozen

set_option maxRecDepth 100000 in
set_option maxHeartbeats 8000000 in
theorem mask_any (a0 : Option Addr) (len0 cap0 : Nat) (zs0 : List Int) (h : HD) (near drop : Bool) (w : World) (hr0 : IntRow w a0 len0 zs0) (hl0 : len0 ≤ maxLen) :
    Calls Try.prog 3 #[.slice a0 len0 cap0, h.v, .bool near, .bool drop] w fun e w' => e = .returned (.bool true) ∧ Below w.heap.size w w' := by
  unfold maxLen at hl0
  have HR0 := hid hr0
  clear hr0
  have HH0 := hid (HandAt.new w h)
  have HB0 := hid (bnew (bid w) (.cells h.cells 24))
  by_cases hlen : 8 < len0
  · obtain ⟨ht, hl, hs, hr, hx⟩ := h
    show Calls _ _ #[_, .agg #[.int .i64 ht, .int .i64 hl, .int .i64 hs, .bool hr, .int .i64 hx], _, _] _ _
    go_enter Try.func3, Try.ntmps3
    go_wp2_with (go_at_call 8; (with_reducible refine (told9_any _).mono ?_); rintro e w1 ⟨rfl, hb1⟩; have HB1 := hid hb1; clear hb1)
    go_ret
    exact ⟨rfl, bthen (bnew (bid w) _) HB1.out⟩
  have HRF := hid (fun (x : World) => pRef_any mp4 x)
  have HSZ := hid (fun (x : World) => (show Calls Try.prog 12 #[mp4.v] x fun e w' => e = .returned (.int .i64 48) ∧ Below x.heap.size x w' from by have := refSize_any mp4 x; rwa [mp4_size] at this))
  obtain ⟨cs, hcs, hmk⟩ := zmake 48 (by omega)
  have hmk : ∀ W : World, (Instr.makeSlice 22 (.int .i64 48) (.int .i64 48)).run Try.prog W = .ok (.slice (some ⟨W.heap.size, 0, none⟩) 48 48) (W.alloc (.cells cs 2)) := hmk
  have HCS := hid hcs
  have HMK := hid hmk
  clear hcs hmk
  obtain ⟨ht, hl, hs, hr, hx⟩ := h
  show Calls _ _ #[_, .agg #[.int .i64 ht, .int .i64 hl, .int .i64 hs, .bool hr, .int .i64 hx], _, _] _ _
  go_enter Try.func3, Try.ntmps3
  go_upto_region 1 with fail
  refine wp_rename (fun W => HandAt W w.heap.size ⟨ht, hl, hs, hr, hx⟩ ∧ Below w.heap.size w W) ⟨HH0.out, HB0.out⟩ ?_
  generalize hqh : w.heap.size = qh
  have HQH := hid hqh
  clear HH0 HB0 hqh
  rintro W ⟨hk, hb⟩
  have HK := hid hk
  have HB := hid hb
  clear hk hb
  go_upto_region 4 with (go_at_call 9; (with_reducible refine (Map_any _).mono ?_); rintro e w1 ⟨rfl, hb1⟩; have HB1 := hid hb1; clear hb1)
  refine wp_rename (fun W => HandAt W qh ⟨ht, hl, hs, hr, hx⟩ ∧ MapAt 27 W w1.heap.size mp4 ∧ qh < w1.heap.size ∧ Below w.heap.size w W) ⟨HK.out.below (bnew HB1.out _), MapAt.new _ w1 mp4, Nat.lt_of_lt_of_le HK.out.lt HB1.out.size, by rw [HQH.out]; exact HB.out.trans ((bnew HB1.out _).mono (Nat.le_of_lt HK.out.lt))⟩ ?_
  generalize w1.heap.size = q
  clear HK HB HB1
  rintro W ⟨hk, hk2, hqq, hb⟩
  have HK := hid hk
  have HK2 := hid hk2
  have HB := hid hb
  have HQQ := hid hqq
  obtain ⟨m0, m1, m2, m3, m4, _⟩ := hk2.facts
  obtain ⟨d0, d1, d2, d3, d4, df⟩ := hk.facts
  clear hk hk2 hb hqq
  go_upto_if 23 with fail
  go_cut [] (fun W => ∃ g : HD, HandAt W qh g ∧ MapAt 27 W q mp4 ∧ Below w.heap.size w W)
  case first =>
    cases near
    · go_wp2_with fail
      go_meet
      case rel => exact ⟨_, HK.out, HK2.out, HB.out⟩
    · go_wp2_with (go_at_call 10; (with_reducible refine (Hand9_any ⟨ht, hl, hs, hr, hx⟩ _).mono ?_); rintro e w3 ⟨⟨⟨gt, gl', gs, gr, gx⟩, rfl⟩, hb3⟩; have HB3 := hid hb3; have HK3 := hid (HK.out.below hb3); clear hb3 d0 d1 d2 d3 d4 df; obtain ⟨d0, d1, d2, d3, d4, df⟩ := HK3.out.facts)
      go_meet
      case rel =>
        have hw := (Wrote.refl (fun j => j = qh) w3).set5 (q := qh) (fun _ => rfl) (.int .i64 gt) (.int .i64 gl') (.int .i64 gs) (.bool gr) (.int .i64 gx)
        exact ⟨⟨gt, gl', gs, gr, gx⟩, HK3.out.set5 ⟨gt, gl', gs, gr, gx⟩, (hw.block q (HK2.out.below HB3.out).lt (by have := HQQ.out; omega)).trans (HK2.out.below HB3.out), (bthen HB.out HB3.out).trans (hw.below (bthen HB.out HB3.out).size fun j hj e => by have := HQH.out; omega)⟩
  case rest =>
    clear HK HK2 HB m0 m1 m2 m3 m4 d0 d1 d2 d3 d4 df
    obtain ⟨h, hk, hk2, hb⟩ := hcut
    have HK := hid hk
    have HK2 := hid hk2
    have HB := hid hb
    obtain ⟨m0, m1, m2, m3, m4, _⟩ := hk2.facts
    clear hk hk2 hb
    go_upto_region 7 with (go_at_call 11; (with_reducible refine (HRF.out _).mono ?_); rintro e w1 ⟨rfl, hb1⟩; have HB1 := hid hb1; clear hb1)
    refine wp_rename (fun W => HandAt W qh h ∧ MapAt 27 W q mp4 ∧ MapAt 30 W w1.heap.size mp4 ∧ q < w1.heap.size ∧ Below w.heap.size w W) ⟨HK.out.below (bnew HB1.out _), (HK2.out.below HB1.out).alloc _, MapAt.new _ w1 mp4, Nat.lt_of_lt_of_le HK2.out.lt HB1.out.size, bnew (bthen HB.out HB1.out) _⟩ ?_
    generalize w1.heap.size = qf
    clear HK HK2 HB HB1 HRF m0 m1 m2 m3 m4
    rintro W ⟨hk, hk2, hk3, hqf, hb⟩
    have HK := hid hk
    have HK2 := hid hk2
    have HK3 := hid hk3
    have HB := hid hb
    have HQF := hid hqf
    obtain ⟨m0, m1, m2, m3, m4, _⟩ := hk3.facts
    clear hk hk2 hk3 hb hqf
    have hmk := HMK.out
    go_upto_region 8 with (go_at_call 12; (with_reducible refine (HSZ.out _).mono ?_); rintro e w2 ⟨rfl, hb2⟩; have HB2 := hid hb2; clear hb2)
    refine wp_rename (fun W => LsAt w q qf qh w2.heap.size h (zrow 48) W) (by
      have h1 := Ints.lit (B := w.heap.size) (zrow 48) w2 2 cs HCS.out (bthen HB.out HB2.out).size (by unfold maxLen; decide)
      have z1 := HK.out.lt
      have z2 := HK2.out.lt
      have z3 := HK3.out.lt
      have z4 := HB2.out.size
      have z5 := HQQ.out
      have z6 := HQF.out
      exact ⟨(HK.out.below HB2.out).below (bnew (bid _) _), (HK2.out.below HB2.out).alloc _, (HK3.out.below HB2.out).alloc _, h1, rfl, ⟨by omega, by omega, by omega, by omega, by omega, by omega⟩, (bthen HB.out HB2.out).size, bnew (bthen HB.out HB2.out) _⟩) ?_
    generalize w2.heap.size = gl
    clear HK HK2 HK3 HB HB2 HSZ HMK hmk HCS m0 m1 m2 m3 m4 HQQ HQF HQH
    intro W3 hk
    have HK := hid hk
    clear hk
    go_wp2_with fail
    go_loopw [12] (fun i W => ∃ j : Nat, j ≤ len0 ∧ i = .int .i64 j ∧ ∃ zs, LsAt w q qf qh gl h zs W) (fun i _ => len0 - (intOf i).toNat)
    case atStart => exact ⟨0, by omega, rfl, _, HK.out⟩
    case round =>
      clear HK
      obtain ⟨j, hj, rfl, zs, hL⟩ := hrel
      have HK := hid hL
      clear hL
      by_cases hlt : j < len0
      · obtain ⟨g, off, rfl, _, hc⟩ := (HR0.out.kept (Wrote.of_below HK.out.below (fun _ => False)) fun _ _ _ h => h).at (by omega)
        have c0 := hc j hlt
        generalize zs0.getD j 0 = z at c0
        clear hc
        have i1 : (0 : Int) ≤ (j : Int) := by omega
        have i2 : (j : Int) < (len0 : Int) := by omega
        obtain ⟨m0, m1, m2, m3, m4, _⟩ := HK.out.rmap.facts
        go_upto_region 12 with fail
        generalize wrap64 ((IntKind.u64.wrap z).tmod 10) = v
        clear c0
        rcases (show j = 0 ∨ j = 1 ∨ j = 2 ∨ j = 3 ∨ j = 4 ∨ j = 5 ∨ j = 6 ∨ j = 7 by omega) with rfl | rfl | rfl | rfl | rfl | rfl | rfl | rfl
        · have HPC := hid (fun (x : World) => (show Calls Try.prog 13 #[mp4.v, .int .i64 0, .int .i64 0] x fun e w' => e = .returned (.int .i64 4) ∧ Below x.heap.size x w' from by
            have := refLock_any mp4 0 0 x
            rwa [show mp4.at_ 3 0 0 = 4 from by decide] at this))
          go_wp2_with (go_at_call 13; (with_reducible refine (HPC.out _).mono ?_); rintro e w5 ⟨rfl, hb5⟩; have HK5 := hid (HK.out.later hb5); obtain ⟨g0, gf⟩ := HK5.out.cell (i := 4) (by decide); have glt := HK5.out.row.lt.2; clear hb5)
          go_roundw
          case rel => exact ⟨1, by omega, by go_num, _, HK5.out.store 4 v⟩
          case measure => simp [intOf]; omega
        · have HPC := hid (fun (x : World) => (show Calls Try.prog 14 #[mp4.v, .int .i64 1, .int .i64 0, .int .i64 0] x fun e w' => e = .returned (.int .i64 28) ∧ Below x.heap.size x w' from by
            have := refNode_any mp4 1 0 0 x
            rwa [show mp4.node 1 0 0 = 28 from by decide] at this))
          go_wp2_with (go_at_call 14; (with_reducible refine (HPC.out _).mono ?_); rintro e w5 ⟨rfl, hb5⟩; have HK5 := hid (HK.out.later hb5); obtain ⟨g0, gf⟩ := HK5.out.cell (i := 28) (by decide); have glt := HK5.out.row.lt.2; clear hb5)
          go_roundw
          case rel => exact ⟨2, by omega, by go_num, _, HK5.out.store 28 v⟩
          case measure => simp [intOf]; omega
        · have HPC := hid (fun (x : World) => (show Calls Try.prog 14 #[mp4.v, .int .i64 2, .int .i64 0, .int .i64 1] x fun e w' => e = .returned (.int .i64 33) ∧ Below x.heap.size x w' from by
            have := refNode_any mp4 2 0 1 x
            rwa [show mp4.node 2 0 1 = 33 from by decide] at this))
          go_wp2_with (go_at_call 14; (with_reducible refine (HPC.out _).mono ?_); rintro e w5 ⟨rfl, hb5⟩; have HK5 := hid (HK.out.later hb5); obtain ⟨g0, gf⟩ := HK5.out.cell (i := 33) (by decide); have glt := HK5.out.row.lt.2; clear hb5)
          go_roundw
          case rel => exact ⟨3, by omega, by go_num, _, HK5.out.store 33 v⟩
          case measure => simp [intOf]; omega
        · have HPC := hid (fun (x : World) => (show Calls Try.prog 13 #[mp4.v, .int .i64 1, .int .i64 0] x fun e w' => e = .returned (.int .i64 10) ∧ Below x.heap.size x w' from by
            have := refLock_any mp4 1 0 x
            rwa [show mp4.at_ 3 1 0 = 10 from by decide] at this))
          go_wp2_with (go_at_call 13; (with_reducible refine (HPC.out _).mono ?_); rintro e w5 ⟨rfl, hb5⟩; have HK5 := hid (HK.out.later hb5); obtain ⟨g0, gf⟩ := HK5.out.cell (i := 10) (by decide); have glt := HK5.out.row.lt.2; clear hb5)
          go_roundw
          case rel => exact ⟨4, by omega, by go_num, _, HK5.out.store 10 v⟩
          case measure => simp [intOf]; omega
        · have HPC := hid (fun (x : World) => (show Calls Try.prog 14 #[mp4.v, .int .i64 0, .int .i64 1, .int .i64 0] x fun e w' => e = .returned (.int .i64 26) ∧ Below x.heap.size x w' from by
            have := refNode_any mp4 0 1 0 x
            rwa [show mp4.node 0 1 0 = 26 from by decide] at this))
          go_wp2_with (go_at_call 14; (with_reducible refine (HPC.out _).mono ?_); rintro e w5 ⟨rfl, hb5⟩; have HK5 := hid (HK.out.later hb5); obtain ⟨g0, gf⟩ := HK5.out.cell (i := 26) (by decide); have glt := HK5.out.row.lt.2; clear hb5)
          go_roundw
          case rel => exact ⟨5, by omega, by go_num, _, HK5.out.store 26 v⟩
          case measure => simp [intOf]; omega
        · have HPC := hid (fun (x : World) => (show Calls Try.prog 14 #[mp4.v, .int .i64 1, .int .i64 1, .int .i64 1] x fun e w' => e = .returned (.int .i64 31) ∧ Below x.heap.size x w' from by
            have := refNode_any mp4 1 1 1 x
            rwa [show mp4.node 1 1 1 = 31 from by decide] at this))
          go_wp2_with (go_at_call 14; (with_reducible refine (HPC.out _).mono ?_); rintro e w5 ⟨rfl, hb5⟩; have HK5 := hid (HK.out.later hb5); obtain ⟨g0, gf⟩ := HK5.out.cell (i := 31) (by decide); have glt := HK5.out.row.lt.2; clear hb5)
          go_roundw
          case rel => exact ⟨6, by omega, by go_num, _, HK5.out.store 31 v⟩
          case measure => simp [intOf]; omega
        · have HPC := hid (fun (x : World) => (show Calls Try.prog 13 #[mp4.v, .int .i64 0, .int .i64 0] x fun e w' => e = .returned (.int .i64 4) ∧ Below x.heap.size x w' from by
            have := refLock_any mp4 0 0 x
            rwa [show mp4.at_ 3 0 0 = 4 from by decide] at this))
          go_wp2_with (go_at_call 13; (with_reducible refine (HPC.out _).mono ?_); rintro e w5 ⟨rfl, hb5⟩; have HK5 := hid (HK.out.later hb5); obtain ⟨g0, gf⟩ := HK5.out.cell (i := 4) (by decide); have glt := HK5.out.row.lt.2; clear hb5)
          go_roundw
          case rel => exact ⟨7, by omega, by go_num, _, HK5.out.store 4 v⟩
          case measure => simp [intOf]; omega
        · have HPC := hid (fun (x : World) => (show Calls Try.prog 14 #[mp4.v, .int .i64 3, .int .i64 1, .int .i64 0] x fun e w' => e = .returned (.int .i64 38) ∧ Below x.heap.size x w' from by
            have := refNode_any mp4 3 1 0 x
            rwa [show mp4.node 3 1 0 = 38 from by decide] at this))
          go_wp2_with (go_at_call 14; (with_reducible refine (HPC.out _).mono ?_); rintro e w5 ⟨rfl, hb5⟩; have HK5 := hid (HK.out.later hb5); obtain ⟨g0, gf⟩ := HK5.out.cell (i := 38) (by decide); have glt := HK5.out.row.lt.2; clear hb5)
          go_roundw
          case rel => exact ⟨8, by omega, by go_num, _, HK5.out.store 38 v⟩
          case measure => simp [intOf]; omega
      · obtain rfl : j = len0 := by omega
        have hlen48 := HK.out.len
        have HROW := hid (show IntRow wr (some ⟨gl, 0, none⟩) 48 zs from by have := HK.out.row; unfold Ints at this; rw [hlen48] at this; exact IntRow.of_own (by simpa [hlen48] using this))
        go_upto_region 21 with (first | (go_at_call 15; (with_reducible refine (New_any _ _ _ _ _ HROW.out (by decide)).mono ?_); rintro e w3 ⟨b, vw, rfl, hm, hb3⟩; have HM := hid hm; have HB3 := hid hb3; clear hm hb3) | (go_at_call 16; (with_reducible refine (RefNew_any _ _ _ _ _ (HROW.out.below HB3.out) (by decide) (fun h => by cases h)).mono ?_); rintro e w4 ⟨c, vr, rfl, hm2, hb4⟩; have HM2 := hid hm2; have HB4 := hid hb4; clear hm2 hb4))
        have HLEN := hid (show (MS.new zs).zs.length = 48 from hlen48)
        clear hlen48
        have HP := hid (show Pair w4 w.heap.size b vw c vr (MS.new zs) (MS.new zs) from (pair_new HM.out HM2.out HB4.out HB3.out.size).mono HK.out.below.size)
        have HK4 := hid (HK.out.later (bthen HB3.out HB4.out))
        have HOLD := hid (show (∀ k, MemS b vw k → k ≠ q ∧ k ≠ qf ∧ k ≠ qh) ∧ (∀ k, MemS c vr k → k ≠ q ∧ k ≠ qf ∧ k ≠ qh) from
          ⟨fun k hk => ⟨fun e => HM.out.old q HK.out.map.lt (e ▸ hk), fun e => HM.out.old qf HK.out.rmap.lt (e ▸ hk), fun e => HM.out.old qh HK.out.box.lt (e ▸ hk)⟩,
            fun k hk => ⟨fun e => HM2.out.old q (Nat.lt_of_lt_of_le HK.out.map.lt HB3.out.size) (e ▸ hk), fun e => HM2.out.old qf (Nat.lt_of_lt_of_le HK.out.rmap.lt HB3.out.size) (e ▸ hk), fun e => HM2.out.old qh (Nat.lt_of_lt_of_le HK.out.box.lt HB3.out.size) (e ▸ hk)⟩⟩)
        generalize MS.new zs = s at *
        clear HROW HM HM2 HB3 HB4 HK
        -- the hand is copied twice
        have HMK2 := hid (fun (W' : World) (qa qb : Nat) (k : LsAt w q qf qh gl h zs W') (hp : Pair W' w.heap.size b vw c vr s s) (ka : HandAt W' qa h) (kb : HandAt W' qb h) (na : w4.heap.size ≤ qa) (nb : w4.heap.size ≤ qb) (nab : qa ≠ qb) => (show AsAt w q qf qh qa qb b vw c vr s s h h h W' from by
          have z1 := HK4.out.box.lt
          have z2 := HK4.out.map.lt
          have z3 := HK4.out.rmap.lt
          have z4 := HK4.out.below.size
          have hy := HP.out.young
          have hap := HP.out.apart
          have hol := HOLD.out
          have hne := k.ne
          refine ⟨k.map, k.rmap, k.box, hp, ka, kb, ?_, ⟨by omega, by omega⟩, k.below⟩
          classical
          refine ⟨fun j => if j = q then 0 else if j = qf then 1 else if j = qh then 2 else if j = qa then 3 else if j = qb then 4 else if MemS b vw j then 5 else 6, ?_, ?_, ?_, ?_, ?_, fun j hj => ?_, fun j hj => ?_⟩
          · show (if q = q then 0 else _) = 0
            rw [if_pos rfl]
          · show (if qf = q then 0 else if qf = qf then 1 else _) = 1
            rw [if_neg (by omega), if_pos rfl]
          · show (if qh = q then 0 else if qh = qf then 1 else if qh = qh then 2 else _) = 2
            rw [if_neg (by omega), if_neg (by omega), if_pos rfl]
          · show (if qa = q then 0 else if qa = qf then 1 else if qa = qh then 2 else if qa = qa then 3 else _) = 3
            rw [if_neg (by omega), if_neg (by omega), if_neg (by omega), if_pos rfl]
          · show (if qb = q then 0 else if qb = qf then 1 else if qb = qh then 2 else if qb = qa then 3 else if qb = qb then 4 else _) = 4
            rw [if_neg (by omega), if_neg (by omega), if_neg (by omega), if_neg (by omega), if_pos rfl]
          · have g1 := hy j (.inl hj)
            have g2 := hol.1 j hj
            show (if j = q then 0 else if j = qf then 1 else if j = qh then 2 else if j = qa then 3 else if j = qb then 4 else if MemS b vw j then 5 else 6) = 5
            rw [if_neg g2.1, if_neg g2.2.1, if_neg g2.2.2, if_neg (by omega), if_neg (by omega), if_pos hj]
          · have g1 := hy j (.inr hj)
            have g2 := hol.2 j hj
            show (if j = q then 0 else if j = qf then 1 else if j = qh then 2 else if j = qa then 3 else if j = qb then 4 else if MemS b vw j then 5 else 6) = 6
            rw [if_neg g2.1, if_neg g2.2.1, if_neg g2.2.2, if_neg (by omega), if_neg (by omega), if_neg (fun e => hap j e hj)]))
        obtain ⟨ht, hl, hs, hr, hx⟩ := h
        obtain ⟨d0, d1, d2, d3, d4, df⟩ := HK4.out.box.facts
        have dz := HK4.out.box.lt
        go_cut [16, 17] (fun va vb W => ∃ qa qb, va = .pointer (some ⟨qa, 0, none⟩) ∧ vb = .pointer (some ⟨qb, 0, none⟩) ∧ AsAt w q qf qh qa qb b vw c vr s s ⟨ht, hl, hs, hr, hx⟩ ⟨ht, hl, hs, hr, hx⟩ ⟨ht, hl, hs, hr, hx⟩ W)
        case first =>
          have HX := hid (show LsAt w q qf qh gl ⟨ht, hl, hs, hr, hx⟩ zs ((w4.alloc (.cells (HD.mk ht hl hs hr hx).cells 24)).alloc (.cells (HD.mk ht hl hs hr hx).cells 24)).drew ∧ Pair ((w4.alloc (.cells (HD.mk ht hl hs hr hx).cells 24)).alloc (.cells (HD.mk ht hl hs hr hx).cells 24)).drew w.heap.size b vw c vr s s ∧ HandAt ((w4.alloc (.cells (HD.mk ht hl hs hr hx).cells 24)).alloc (.cells (HD.mk ht hl hs hr hx).cells 24)).drew w4.heap.size ⟨ht, hl, hs, hr, hx⟩ ∧ HandAt ((w4.alloc (.cells (HD.mk ht hl hs hr hx).cells 24)).alloc (.cells (HD.mk ht hl hs hr hx).cells 24)).drew (w4.heap.size + 1) ⟨ht, hl, hs, hr, hx⟩ from by
            have hb := bdrew (bnew (bnew (bid w4) (.cells (HD.mk ht hl hs hr hx).cells 24)) (.cells (HD.mk ht hl hs hr hx).cells 24))
            have h1 := HandAt.new w4 ⟨ht, hl, hs, hr, hx⟩
            have h2 := HandAt.new (w4.alloc (.cells (HD.mk ht hl hs hr hx).cells 24)) ⟨ht, hl, hs, hr, hx⟩
            rw [size_alloc1] at h2
            exact ⟨HK4.out.later hb, HP.out.below hb, h1.below (bdrew (bnew (bid _) _)), h2.below (bdrew (bid _))⟩)
          go_upto_region 21 with fail
          go_region
          all_goals
            go_wp2_with fail
            go_meet
            case rel => first | exact ⟨w4.heap.size, w4.heap.size + 1, rfl, rfl, HMK2.out _ _ _ HX.out.1 HX.out.2.1 HX.out.2.2.1 HX.out.2.2.2 (Nat.le_refl _) (by omega) (by omega)⟩ | exact ⟨w4.heap.size + 1, w4.heap.size, rfl, rfl, HMK2.out _ _ _ HX.out.1 HX.out.2.1 HX.out.2.2.2 HX.out.2.2.1 (by omega) (Nat.le_refl _) (by omega)⟩
        case rest =>
          clear HK4 HP HOLD HMK2 d0 d1 d2 d3 d4 df dz
          obtain ⟨qa, qb, rfl, rfl, hk⟩ := hcut
          have HK := hid hk
          clear hk
          generalize hh : (HD.mk ht hl hs hr hx) = h at *
          clear hh
          go_upto_if 86 with fail
          go_cut [] (fun W => ∃ s2 g2, s2.zs.length = 48 ∧ AsAt w q qf qh qa qb b vw c vr s2 s2 h g2 g2 W)
          case first =>
            have HTK := hid (fun (x : World) (hm : Mem x w.heap.size b vw s) => mTake_any mp4 h x _ b vw s hm (by rw [mp4_size, HLEN.out]; decide))
            have HRT := hid (fun (x : World) (hm : Ref x w.heap.size c vr s) => rmTake_any mp4 h x _ c vr s hm (by rw [mp4_size, HLEN.out]; decide))
            have HDR := hid (fun (x : World) (hm : Mem x w.heap.size b vw s) => mDrop_any mp4 h x _ b vw s hm (by rw [mp4_size, HLEN.out]; decide))
            have HRD := hid (fun (x : World) (hm : Ref x w.heap.size c vr s) => rmDrop_any mp4 h x _ c vr s hm (by rw [mp4_size, HLEN.out]; decide))
            cases drop
            · go_upto_region 24 with fail
              have hne1 : Nonempty (Sat (fun W => ∃ s t ga gb, AsAt w q qf qh qa qb b vw c vr s t h ga gb W)) := ⟨⟨_, _, _, _, _, HK.out⟩⟩
              have hne2 : Nonempty (Sat (fun _ => True)) := ⟨⟨w, trivial⟩⟩
              have hcells := fun (x : Sat (fun W => ∃ s t ga gb, AsAt w q qf qh qa qb b vw c vr s t h ga gb W)) => AsAt.satCells x
              have y0 := fun x => (hcells x).1
              have y1 := fun x => (hcells x).2.1
              have y2 := fun x => (hcells x).2.2.1
              have y3 := fun x => (hcells x).2.2.2.1
              have y4 := fun x => (hcells x).2.2.2.2.1
              have y5 := fun x => (hcells x).2.2.2.2.2.1
              have y6 := fun x => (hcells x).2.2.2.2.2.2.1
              have y7 := fun x => (hcells x).2.2.2.2.2.2.2.1
              have y8 := fun x => (hcells x).2.2.2.2.2.2.2.2.1
              have y9 := fun x => (hcells x).2.2.2.2.2.2.2.2.2.1
              have y10 := fun x => (hcells x).2.2.2.2.2.2.2.2.2.2.1
              have y11 := fun x => (hcells x).2.2.2.2.2.2.2.2.2.2.2.1
              have y12 := fun x => (hcells x).2.2.2.2.2.2.2.2.2.2.2.2.1
              have y13 := fun x => (hcells x).2.2.2.2.2.2.2.2.2.2.2.2.2.1
              have y14 := fun x => (hcells x).2.2.2.2.2.2.2.2.2.2.2.2.2.2
              clear hcells
              refine wp_region_staged (AsD w q qf qh qa qb b vw c vr s (mcTake mp4 s h).2 h (mcTake mp4 s h).1) (by kernel_rfl) (by kernel_rfl) (fun L hL => AsD.start hL HK.out) ?_
              refine wpS_plain (fun W => ∃ s t ga gb, AsAt w q qf qh qa qb b vw c vr s t h ga gb W) (fun L W hL hcl hd => ⟨_, _, _, _, hd⟩) (fun _ _ h => h) rfl rfl ?_
              intro KK hKK
              go_big_quiet_op
              go_big_quiet_on
              refine wpS_plain (fun _ => True) (fun _ _ _ _ _ => trivial) (fun _ _ h => h) rfl rfl ?_
              intro KK hKK
              go_big_quiet_op
              go_big_quiet_on
              refine wpS_plain (fun W => ∃ s t ga gb, AsAt w q qf qh qa qb b vw c vr s t h ga gb W) (fun L W hL hcl hd => ⟨_, _, _, _, hd⟩) (fun _ _ h => h) rfl rfl ?_
              intro KK hKK
              go_big_quiet_op
              go_big_quiet_on
              refine wpS_call 19 #[(PM.v mp4), .pointer (some ⟨b, 0, none⟩), h.v] (mcTake mp4 s h).1.v rfl (fun _ => by go_simp) ?_ ?_
              · intro L W hL hcl hd
                have hd1 := AsD.at3 hd hL
                refine (HTK.out _ hd1.pair.mem).mono ?_
                rintro e w'' ⟨rfl, hm, hw⟩
                exact ⟨rfl, hd1.one hm hw⟩
              (try simp only [Act.put, List.getElem_toArray, List.getElem_cons_zero, List.getElem_cons_succ, List.setIfInBounds_toArray, List.set_cons_zero, List.set_cons_succ])
              refine wpS_plain (fun W => ∃ s t ga gb, AsAt w q qf qh qa qb b vw c vr s t h ga gb W) (fun L W hL hcl hd => ⟨_, _, _, _, hd⟩) (fun _ _ h => h) rfl rfl ?_
              intro KK hKK
              go_big_quiet_op
              go_big_quiet_on
              refine wpS_plain (fun _ => True) (fun _ _ _ _ _ => trivial) (fun _ _ h => h) rfl rfl ?_
              intro KK hKK
              go_big_quiet_op
              go_big_quiet_on
              refine wpS_plain (fun W => ∃ s t ga gb, AsAt w q qf qh qa qb b vw c vr s t h ga gb W) (fun L W hL hcl hd => ⟨_, _, _, _, hd⟩) (fun _ _ h => h) rfl rfl ?_
              intro KK hKK
              go_big_quiet_op
              go_big_quiet_on
              refine wpS_call 20 #[(PM.v mp4), .pointer (some ⟨c, 0, none⟩), h.v] (mcTake mp4 s h).1.v rfl (fun _ => by go_simp) ?_ ?_
              · intro L W hL hcl hd
                have hd1 := AsD.at7 hd hL
                refine (HRT.out _ hd1.pair.ref).mono ?_
                rintro e w'' ⟨rfl, hm, hw⟩
                exact ⟨rfl, hd1.two hm hw⟩
              (try simp only [Act.put, List.getElem_toArray, List.getElem_cons_zero, List.getElem_cons_succ, List.setIfInBounds_toArray, List.set_cons_zero, List.set_cons_succ])
              refine wpS_store rfl ?_ ?_
              · intro L W hL hcl hd
                have hd1 := AsD.at8 hd hL
                obtain ⟨e0, e1, e2, e3, e4, ef⟩ := hd1.ah.facts
                exact ⟨_, by go_simp, hd1.setA (mcTake mp4 s h).1⟩
              (try simp only [Act.put, List.getElem_toArray, List.getElem_cons_zero, List.getElem_cons_succ, List.setIfInBounds_toArray, List.set_cons_zero, List.set_cons_succ])
              refine wpS_store rfl ?_ ?_
              · intro L W hL hcl hd
                have hd1 := AsD.at9 hd hL
                obtain ⟨e0, e1, e2, e3, e4, ef⟩ := hd1.bh.facts
                exact ⟨_, by go_simp, hd1.setB (mcTake mp4 s h).1⟩
              (try simp only [Act.put, List.getElem_toArray, List.getElem_cons_zero, List.getElem_cons_succ, List.setIfInBounds_toArray, List.set_cons_zero, List.set_cons_succ])
              intro L W hall hd
              have HK9 := hid (AsD.end_ hall hd)
              clear hd hall y0 y1 y2 y3 y4 y5 y6 y7 y8 y9 y10 y11 y12 y13 y14 hne1 hne2
              go_wp2_with fail
              go_meet
              case rel => exact ⟨_, _, by rw [len_mcTake]; exact HLEN.out, HK9.out⟩
            · go_upto_region 23 with fail
              have hne1 : Nonempty (Sat (fun W => ∃ s t ga gb, AsAt w q qf qh qa qb b vw c vr s t h ga gb W)) := ⟨⟨_, _, _, _, _, HK.out⟩⟩
              have hne2 : Nonempty (Sat (fun _ => True)) := ⟨⟨w, trivial⟩⟩
              have hcells := fun (x : Sat (fun W => ∃ s t ga gb, AsAt w q qf qh qa qb b vw c vr s t h ga gb W)) => AsAt.satCells x
              have y0 := fun x => (hcells x).1
              have y1 := fun x => (hcells x).2.1
              have y2 := fun x => (hcells x).2.2.1
              have y3 := fun x => (hcells x).2.2.2.1
              have y4 := fun x => (hcells x).2.2.2.2.1
              have y5 := fun x => (hcells x).2.2.2.2.2.1
              have y6 := fun x => (hcells x).2.2.2.2.2.2.1
              have y7 := fun x => (hcells x).2.2.2.2.2.2.2.1
              have y8 := fun x => (hcells x).2.2.2.2.2.2.2.2.1
              have y9 := fun x => (hcells x).2.2.2.2.2.2.2.2.2.1
              have y10 := fun x => (hcells x).2.2.2.2.2.2.2.2.2.2.1
              have y11 := fun x => (hcells x).2.2.2.2.2.2.2.2.2.2.2.1
              have y12 := fun x => (hcells x).2.2.2.2.2.2.2.2.2.2.2.2.1
              have y13 := fun x => (hcells x).2.2.2.2.2.2.2.2.2.2.2.2.2.1
              have y14 := fun x => (hcells x).2.2.2.2.2.2.2.2.2.2.2.2.2.2
              clear hcells
              refine wp_region_staged (AsD w q qf qh qa qb b vw c vr s (mcDrop mp4 s h).2 h (mcDrop mp4 s h).1) (by kernel_rfl) (by kernel_rfl) (fun L hL => AsD.start hL HK.out) ?_
              refine wpS_plain (fun W => ∃ s t ga gb, AsAt w q qf qh qa qb b vw c vr s t h ga gb W) (fun L W hL hcl hd => ⟨_, _, _, _, hd⟩) (fun _ _ h => h) rfl rfl ?_
              intro KK hKK
              go_big_quiet_op
              go_big_quiet_on
              refine wpS_plain (fun _ => True) (fun _ _ _ _ _ => trivial) (fun _ _ h => h) rfl rfl ?_
              intro KK hKK
              go_big_quiet_op
              go_big_quiet_on
              refine wpS_plain (fun W => ∃ s t ga gb, AsAt w q qf qh qa qb b vw c vr s t h ga gb W) (fun L W hL hcl hd => ⟨_, _, _, _, hd⟩) (fun _ _ h => h) rfl rfl ?_
              intro KK hKK
              go_big_quiet_op
              go_big_quiet_on
              refine wpS_call 17 #[(PM.v mp4), .pointer (some ⟨b, 0, none⟩), h.v] (mcDrop mp4 s h).1.v rfl (fun _ => by go_simp) ?_ ?_
              · intro L W hL hcl hd
                have hd1 := AsD.at3 hd hL
                refine (HDR.out _ hd1.pair.mem).mono ?_
                rintro e w'' ⟨rfl, hm, hw⟩
                exact ⟨rfl, hd1.one hm hw⟩
              (try simp only [Act.put, List.getElem_toArray, List.getElem_cons_zero, List.getElem_cons_succ, List.setIfInBounds_toArray, List.set_cons_zero, List.set_cons_succ])
              refine wpS_plain (fun W => ∃ s t ga gb, AsAt w q qf qh qa qb b vw c vr s t h ga gb W) (fun L W hL hcl hd => ⟨_, _, _, _, hd⟩) (fun _ _ h => h) rfl rfl ?_
              intro KK hKK
              go_big_quiet_op
              go_big_quiet_on
              refine wpS_plain (fun _ => True) (fun _ _ _ _ _ => trivial) (fun _ _ h => h) rfl rfl ?_
              intro KK hKK
              go_big_quiet_op
              go_big_quiet_on
              refine wpS_plain (fun W => ∃ s t ga gb, AsAt w q qf qh qa qb b vw c vr s t h ga gb W) (fun L W hL hcl hd => ⟨_, _, _, _, hd⟩) (fun _ _ h => h) rfl rfl ?_
              intro KK hKK
              go_big_quiet_op
              go_big_quiet_on
              refine wpS_call 18 #[(PM.v mp4), .pointer (some ⟨c, 0, none⟩), h.v] (mcDrop mp4 s h).1.v rfl (fun _ => by go_simp) ?_ ?_
              · intro L W hL hcl hd
                have hd1 := AsD.at7 hd hL
                refine (HRD.out _ hd1.pair.ref).mono ?_
                rintro e w'' ⟨rfl, hm, hw⟩
                exact ⟨rfl, hd1.two hm hw⟩
              (try simp only [Act.put, List.getElem_toArray, List.getElem_cons_zero, List.getElem_cons_succ, List.setIfInBounds_toArray, List.set_cons_zero, List.set_cons_succ])
              refine wpS_store rfl ?_ ?_
              · intro L W hL hcl hd
                have hd1 := AsD.at8 hd hL
                obtain ⟨e0, e1, e2, e3, e4, ef⟩ := hd1.ah.facts
                exact ⟨_, by go_simp, hd1.setA (mcDrop mp4 s h).1⟩
              (try simp only [Act.put, List.getElem_toArray, List.getElem_cons_zero, List.getElem_cons_succ, List.setIfInBounds_toArray, List.set_cons_zero, List.set_cons_succ])
              refine wpS_store rfl ?_ ?_
              · intro L W hL hcl hd
                have hd1 := AsD.at9 hd hL
                obtain ⟨e0, e1, e2, e3, e4, ef⟩ := hd1.bh.facts
                exact ⟨_, by go_simp, hd1.setB (mcDrop mp4 s h).1⟩
              (try simp only [Act.put, List.getElem_toArray, List.getElem_cons_zero, List.getElem_cons_succ, List.setIfInBounds_toArray, List.set_cons_zero, List.set_cons_succ])
              intro L W hall hd
              have HK9 := hid (AsD.end_ hall hd)
              clear hd hall y0 y1 y2 y3 y4 y5 y6 y7 y8 y9 y10 y11 y12 y13 y14 hne1 hne2
              go_wp2_with fail
              go_meet
              case rel => exact ⟨_, _, by rw [len_mcDrop]; exact HLEN.out, HK9.out⟩
          case rest =>
            clear HK
            obtain ⟨s2, g2, hL2, hk⟩ := hcut
            have HL2 := hid hL2
            have HK := hid hk
            clear hL2 hk
            obtain ⟨ht, hl, hs, hr, hx⟩ := h
            obtain ⟨gt, gl', gs, gr, gx⟩ := g2
            obtain ⟨m0, m1, m2, m3, m4, zm⟩ := HK.out.map.facts
            obtain ⟨n0, n1, n2, n3, n4, zn⟩ := HK.out.rmap.facts
            obtain ⟨d0, d1, d2, d3, d4, df⟩ := HK.out.box.facts
            obtain ⟨a0', a1, a2, a3, a4, af⟩ := HK.out.ah.facts
            obtain ⟨b0, b1, b2, b3, b4, bf⟩ := HK.out.bh.facts
            have zd := HK.out.box.lt
            have za := HK.out.ah.lt
            have zb := HK.out.bh.lt
            have heq := eq_hand
            have hg := guard_hand
            have hsame : sameH ⟨gt, gl', gs, gr, gx⟩ ⟨gt, gl', gs, gr, gx⟩ = true := sameH_refl _
            have HLA := hid (fun (x : World) (hm : Mem x w.heap.size b vw s2) => Last_thread mp4 hl x _ b vw s2 hm (by rw [mp4_size, HL2.out]; decide))
            have HLB := hid (fun (x : World) (hm : Ref x w.heap.size c vr s2) => rLast_any mp4 hl x _ c vr s2 hm mp4_ok)
            have HIA := hid (fun (x : World) => Id_any mp4 ht hl x)
            have HIB := hid (fun (x : World) => rId_any mp4 ht hl x)
            generalize ownF mp4 hl (s2.vAt (mp4.at_ 3 hl 0)) = ow at *
            generalize idF mp4 ht hl = iw at *
            go_upto_region 25 with fail
            refine wp_region_later (by kernel_rfl) (by kernel_rfl) ?_
            repeat (go_big_quiet_step (first | (go_at_call 8; with_reducible exact later_call (told9_any _)) | (go_at_call 21; with_reducible exact later_call (Same_yes _ _ _ _ _ _ _ _ _ (HK.out.later (Later.below _)).pair.mem (HK.out.later (Later.below _)).pair.ref rfl (by rw [HL2.out]; decide))) | (go_at_call 22; with_reducible exact later_call (Like_yes _ _ _ _ _ _ _ (HK.out.later (Later.below _)).pair)) | (go_at_call 23; with_reducible exact later_call (HIA.out _)) | (go_at_call 24; with_reducible exact later_call (HIB.out _)) | (go_at_call 25; with_reducible exact later_call (HLA.out _ (HK.out.later (Later.below _)).pair.mem)) | (go_at_call 26; with_reducible exact later_call (HLB.out _ (HK.out.later (Later.below _)).pair.ref))))
            refine wpQuiet_nil ?_
            rintro _ ⟨xq, rfl⟩
            have HK3 := hid (HK.out.later xq.below)
            go_wp2_with fail
            go_ret
            exact ⟨rfl, HK3.out.below⟩

end Go.Proofs.Ytmngpgocpamfgaa
