/-
  McsOwn: while it waits a hand looks at its own node alone.
-/
import Derived.Test.YtmngpgocpamfgaaMcAt
import Derived.Test.YtmngpgocpamfgaaMcsE
namespace Go.Proofs.Ytmngpgocpamfgaa
open Go.RowKit
attribute [local go_sem] Later.cell Later.frozen

/-- Hands of one lock that only take it. -/
structure OwnI (s : MS) (hs : Nat → HD) : Prop where
  len : s.zs.length = 48
  hand : ∀ k, k < 4 → (hs k).t = (k : Int) ∧ (hs k).l = 0 ∧ ((hs k).s = 0 ∨ (hs k).s = 1 ∨ (hs k).s = 2 ∨ (hs k).s = 3 ∨ (hs k).s = 4 ∨ (hs k).s = 5 ∨ (hs k).s = 9)
theorem OwnI.may {s : MS} {hs : Nat → HD} (h : OwnI s hs) {k : Nat} (hk : k < 4) : mayH mp4 (hs k) := by
  obtain ⟨e1, e2, _⟩ := h.hand k hk
  refine ⟨mp4_ok, ?_, ?_, ?_, ?_⟩ <;> simp only [e1, e2, mp4] <;> omega
theorem OwnI.start : OwnI (MS.new (zrow 48)) (firstM 0 4) := ⟨zrow_len 48, fun k hk => by rw [firstM_at hk]; exact ⟨rfl, rfl, .inl rfl⟩⟩
theorem MS.stored_at {s : MS} {p v : Int} (h0 : 0 ≤ p) (h1 : p < (s.zs.length : Int)) : (s.stored p v).at_ = p := by unfold MS.stored; rw [if_pos ⟨h0, h1⟩]; rfl
theorem MS.loaded_at {s : MS} {p : Int} (h0 : 0 ≤ p) (h1 : p < (s.zs.length : Int)) : (s.loaded p).at_ = p := by unfold MS.loaded; rw [if_pos ⟨h0, h1⟩]; rfl
theorem OwnI.take {s : MS} {hs : Nat → HD} (h : OwnI s hs) {k : Nat} (hk : k < 4) :
    OwnI (mcTake mp4 s (hs k)).2 (upd hs k (mcTake mp4 s (hs k)).1) ∧ ((hs k).s = 5 ∨ (hs k).s = 0 → (mcTake mp4 s (hs k)).2.at_ = mp4.node k 0 0) ∧ ((hs k).s = 1 → (mcTake mp4 s (hs k)).2.at_ = mp4.node k 0 1) := by
  have hmay := h.may hk
  obtain ⟨e1, e2, e3⟩ := h.hand k hk
  have n0 := node_pos hmay (p := 0) (by decide) (by decide)
  have n1 := node_pos hmay (p := 1) (by decide) (by decide)
  have hlen := h.len
  rw [mp4_size] at n0 n1
  refine ⟨⟨by rw [len_mcTake]; exact h.len, fun j hj => ?_⟩, fun h5 => ?_, fun h1 => ?_⟩
  · by_cases ej : j = k
    · subst ej
      rw [upd_at]
      rcases e3 with e3 | e3 | e3 | e3 | e3 | e3 | e3
      · rw [mcT0 hmay e3]; exact ⟨e1, e2, .inr (.inl rfl)⟩
      · rw [mcT1 hmay e3]; exact ⟨e1, e2, .inr (.inr (.inl rfl))⟩
      · rw [mcT2 hmay e3]; exact ⟨e1, e2, .inr (.inr (.inr (.inl rfl)))⟩
      · rw [mcT3 hmay e3]
        unfold mcQueue
        dsimp only
        split
        · split
          · exact ⟨e1, e2, .inr (.inr (.inr (.inr (.inr (.inr rfl)))))⟩
          · exact ⟨e1, e2, .inr (.inr (.inr (.inr (.inl rfl))))⟩
        · exact ⟨e1, e2, .inr (.inr (.inr (.inl e3)))⟩
      · rw [mcT4 hmay e3]
        split
        · exact ⟨e1, e2, .inr (.inr (.inr (.inr (.inr (.inl rfl)))))⟩
        · exact ⟨e1, e2, .inr (.inr (.inr (.inr (.inl e3))))⟩
      · rw [mcT5 hmay e3]
        dsimp only
        split
        · exact ⟨e1, e2, .inr (.inr (.inr (.inr (.inr (.inr rfl)))))⟩
        · exact ⟨e1, e2, .inr (.inr (.inr (.inr (.inr (.inl e3)))))⟩
      · rw [mcTq hmay (by omega)]; exact ⟨e1, e2, .inr (.inr (.inr (.inr (.inr (.inr e3)))))⟩
    · rw [upd_ne ej]
      exact h.hand j hj
  · rcases h5 with h5 | h5
    · rw [mcT5 hmay h5, MS.loaded_at n0.1 (by omega), e1, e2]
    · rw [mcT0 hmay h5, MS.stored_at n0.1 (by omega), e1, e2]
  · rw [mcT1 hmay h1, MS.stored_at n1.1 (by omega), e1, e2]
theorem node_apart (k : Int) (h0 : 0 ≤ k) (h1 : k < 4) : (mp4.node k 0 1 != mp4.node k 0 0) = true := by
  have : k = 0 ∨ k = 1 ∨ k = 2 ∨ k = 3 := by omega
  rcases this with rfl | rfl | rfl | rfl <;> decide

set_option maxRecDepth 100000 in
set_option maxHeartbeats 8000000 in
theorem mown_any (a0 : Option Addr) (len0 cap0 : Nat) (zs0 : List Int) (w : World) (hr0 : IntRow w a0 len0 zs0) (hl0 : len0 ≤ maxLen) :
    Calls Try.prog 6 #[.slice a0 len0 cap0] w fun e w' => e = .returned (.bool true) ∧ Below w.heap.size w w' := by
  unfold maxLen at hl0
  have HR0 := hid hr0
  clear hr0
  by_cases hlen : 200 < len0
  · go_enter Try.func6, Try.ntmps6
    go_wp2_with (go_at_call 8; (with_reducible refine (told9_any _).mono ?_); rintro e w1 ⟨rfl, hb1⟩)
    go_ret
    exact ⟨rfl, hb1⟩
  have HBO := hid (fun (x : World) => (show Calls Try.prog 27 #[mp4.v] x (MadeBoth 48 x) from by have := Both_any mp4 x mp4_ok; rwa [mp4_size] at this))
  go_enter Try.func6, Try.ntmps6
  go_upto_region 4 with (go_at_call 9; (with_reducible refine (Map_any _).mono ?_); rintro e w1 ⟨rfl, hb1⟩; have HB1 := hid hb1; clear hb1)
  refine wp_rename (fun W => MapAt 27 W w1.heap.size mp4 ∧ Below w.heap.size w W) ⟨MapAt.new _ w1 mp4, bnew HB1.out _⟩ ?_
  have hq0 := HB1.out.size
  generalize w1.heap.size = q at hq0 ⊢
  clear HB1
  rintro W ⟨hk, hb⟩
  have HK := hid hk
  have HB := hid hb
  obtain ⟨m0, m1, m2, m3, m4, _⟩ := hk.facts
  clear hk hb
  go_upto_region 8 with (go_at_call 27; (with_reducible refine (HBO.out _).mono ?_); rintro e w2 ⟨b, vw, c, vr, rfl, hp, hb2⟩; have HP := hid hp; have HB2 := hid hb2; clear hp hb2)
  refine wp_rename (fun W' => McAt w q w2.heap.size b vw (MS.new (zrow 48)) (fun _ => h0) W') ?_ ?_
  · have hq1 := HK.out.lt
    have hq2 := HB2.out.size
    have hq3 := HB.out.size
    have hbb := bnew (bid w2) (.cells four0 51)
    refine ⟨(HK.out.below HB2.out).below hbb, (HP.out.mem.mono hq3).kept (Wrote.of_below hbb (fun _ => False)) (fun _ _ h => h), FourAt.new w2, fun j hj => ?_, by omega, ⟨hq0, by omega⟩, bthen (bthen HB.out HB2.out) hbb⟩
    have hy := HP.out.mem.hold j hj
    exact ⟨fun e => HP.out.mem.old _ hq1 (e ▸ hj), by omega⟩
  generalize w2.heap.size = qh
  clear HP HB2 HB HK HBO m0 m1 m2 m3 m4 hq0
  intro W3 hk
  have HK := hid hk
  clear hk
  go_wp2_with fail
  go_loopw [7] (fun i W => ∃ k : Nat, k ≤ 4 ∧ i = .int .i64 k ∧ McAt w q qh b vw (MS.new (zrow 48)) (firstM 0 k) W) (fun i _ => 4 - (intOf i).toNat)
  case atStart => exact ⟨0, by omega, rfl, by rw [firstM_zero]; exact HK.out⟩
  case round =>
    clear HK
    obtain ⟨k, hk, rfl, hr⟩ := hrel
    have HK := hid hr
    clear hr
    by_cases hlt : k < 4
    · have i1 : (0 : Int) ≤ (k : Int) := by omega
      have i2 : (k : Int) < 4 := by omega
      obtain ⟨e0, e1, e2, e3, e4, ef⟩ := HK.out.hh.facts hlt
      go_upto_region 10 with fail
      refine wp_rename (fun W => McAt w q qh b vw (MS.new (zrow 48)) (firstM 0 (k + 1)) W) (by have h := HK.out.set hlt ⟨k, 0, 0, false, 0⟩; rw [firstM_succ] at h; exact h) ?_
      clear e0 e1 e2 e3 e4 ef HK
      intro W5 hk5
      have HK := hid hk5
      clear hk5
      go_wp2_with fail
      go_roundw
      case rel => exact ⟨k + 1, by omega, by go_num, HK.out⟩
      case measure => simp [intOf]; omega
    · obtain rfl : k = 4 := by omega
      go_wp2_with fail
      go_loopw [8] (fun i W => ∃ j : Nat, j ≤ len0 ∧ i = .int .i64 j ∧ ∃ s hs, OwnI s hs ∧ McAt w q qh b vw s hs W) (fun i _ => len0 - (intOf i).toNat)
      case atStart => exact ⟨0, by omega, rfl, _, _, OwnI.start, HK.out⟩
      case round =>
        clear HK hlt hk
        obtain ⟨j, hj, rfl, s, hs, hI, hR⟩ := hrel
        have HI := hid hI
        have HK := hid hR
        clear hI hR
        by_cases hlt : j < len0
        · obtain ⟨g, off, rfl, _, hc⟩ := (HR0.out.kept (Wrote.of_below HK.out.below (fun _ => False)) fun _ _ _ h => h).at (by omega)
          have c0 := hc j hlt
          generalize zs0.getD j 0 = z at c0
          clear hc
          have i1 : (0 : Int) ≤ (j : Int) := by omega
          have i2 : (j : Int) < (len0 : Int) := by omega
          go_upto_region 16 with fail
          obtain ⟨k, hk4, hkk⟩ := pick_of4 z
          rw [hkk]
          clear hkk c0
          have k1 : (0 : Int) ≤ (k : Int) := by omega
          have k2 : (k : Int) < 4 := by omega
          obtain ⟨e0, e1, e2, e3, e4, ef⟩ := HK.out.hh.facts hk4
          have HTK := hid (fun (x : World) (hm : Mem x w.heap.size b vw s) => mTake_any mp4 (hs k) x _ b vw s hm (by rw [mp4_size, HI.out.len]; decide))
          go_upto_region 17 with fail
          clear e0 e1 e2 e3 e4 ef
          have hne1 : Nonempty (Sat (fun W => ∃ s, McAt w q qh b vw s hs W)) := ⟨⟨_, _, HK.out⟩⟩
          have hne2 : Nonempty (Sat (fun _ => True)) := ⟨⟨w, trivial⟩⟩
          have hcells := fun (x : Sat (fun W => ∃ s, McAt w q qh b vw s hs W)) => McAt.satCells x hk4
          have y0 := fun x => (hcells x).1
          have y1 := fun x => (hcells x).2.1
          have y2 := fun x => (hcells x).2.2.1
          have y3 := fun x => (hcells x).2.2.2.1
          have y4 := fun x => (hcells x).2.2.2.2.1
          have y5 := fun x => (hcells x).2.2.2.2.2.1
          have y6 := fun x => (hcells x).2.2.2.2.2.2.1
          have y7 := fun x => (hcells x).2.2.2.2.2.2.2.1
          have y8 := fun x => (hcells x).2.2.2.2.2.2.2.2.1
          have y9 := fun x => (hcells x).2.2.2.2.2.2.2.2.2
          clear hcells
          refine wp_region_staged (McD w q qh b vw s (mcTake mp4 s (hs k)).2 hs k (mcTake mp4 s (hs k)).1) (by kernel_rfl) (by kernel_rfl) (fun L hL => McD.start hL HK.out) ?_
          refine wpS_plain (fun _ => True) (fun _ _ _ _ _ => trivial) (fun _ _ h => h) rfl rfl ?_
          intro KK hKK
          go_big_quiet_op
          go_big_quiet_on
          refine wpS_plain (fun W => ∃ s, McAt w q qh b vw s hs W) (fun L W hL hcl hd => by have h := hcl.no hL (j := 6) (by kernel_rfl); have h8 := hcl.no h (j := 8) (by kernel_rfl); exact McD.reads hd h8) (fun _ _ h => h) rfl rfl ?_
          intro KK hKK
          go_big_quiet_op
          go_big_quiet_on
          refine wpS_plain (fun _ => True) (fun _ _ _ _ _ => trivial) (fun _ _ h => h) rfl rfl ?_
          intro KK hKK
          go_big_quiet_op
          go_big_quiet_on
          refine wpS_plain (fun _ => True) (fun _ _ _ _ _ => trivial) (fun _ _ h => h) rfl rfl ?_
          intro KK hKK
          go_big_quiet_op
          go_big_quiet_on
          refine wpS_plain (fun _ => True) (fun _ _ _ _ _ => trivial) (fun _ _ h => h) rfl rfl ?_
          intro KK hKK
          go_big_quiet_op
          go_big_quiet_on
          refine wpS_plain (fun W => ∃ s, McAt w q qh b vw s hs W) (fun L W hL hcl hd => by have h := hcl.no hL (j := 6) (by kernel_rfl); have h8 := hcl.no h (j := 8) (by kernel_rfl); exact McD.reads hd h8) (fun _ _ h => h) rfl rfl ?_
          intro KK hKK
          go_big_quiet_op
          go_big_quiet_on
          refine wpS_call 19 #[(PM.v mp4), .pointer (some ⟨b, 0, none⟩), (hs k).v] (mcTake mp4 s (hs k)).1.v rfl (fun _ => by go_simp) ?_ ?_
          · intro L W hL hcl hd
            have hd1 := McD.at6 hd hL
            refine (HTK.out _ hd1.mem).mono ?_
            rintro e w'' ⟨rfl, hm, hw⟩
            exact ⟨rfl, hd1.one hm hw⟩
          (try simp only [Act.put, List.getElem_toArray, List.getElem_cons_zero, List.getElem_cons_succ, List.setIfInBounds_toArray, List.set_cons_zero, List.set_cons_succ])
          refine wpS_plain (fun _ => True) (fun _ _ _ _ _ => trivial) (fun _ _ h => h) rfl rfl ?_
          intro KK hKK
          go_big_quiet_op
          go_big_quiet_on
          refine wpS_store rfl ?_ ?_
          · intro L W hL hcl hd
            have hd1 := McD.at8 hd hL
            obtain ⟨e0, e1, e2, e3, e4, ef⟩ := hd1.hh.facts hk4
            exact ⟨_, by go_simp, hd1.set hk4 (mcTake mp4 s (hs k)).1⟩
          (try simp only [Act.put, List.getElem_toArray, List.getElem_cons_zero, List.getElem_cons_succ, List.setIfInBounds_toArray, List.set_cons_zero, List.set_cons_succ])
          intro L W hall hd
          have HK9 := hid (McD.end_ hall hd)
          clear hd hall y0 y1 y2 y3 y4 y5 y6 y7 y8 y9 hne1 hne2
          have ht := HI.out.take hk4
          have hst := (HI.out.hand k hk4).2.2
          have HI2 := hid ht.1
          have HN0 := hid (fun (x : World) => Node_any mp4 k 0 0 x)
          have HN1 := hid (fun (x : World) => Node_any mp4 k 0 1 x)
          have hgne := node_apart k k1 k2
          have hfa := field_at
          obtain ⟨_, ht5, ht1⟩ := ht
          clear HK HTK HI
          generalize (mcTake mp4 s (hs k)).2 = s2 at *
          generalize (mcTake mp4 s (hs k)).1 = g2 at *
          generalize mp4.node k 0 0 = gt at *
          generalize mp4.node k 0 1 = lk at *
          obtain ⟨m0, m1, m2, m3, m4, zq⟩ := HK9.out.map.facts
          obtain ⟨zs2, st2, kd2, at2, vl2, sw2, dn2⟩ := s2
          simp only at ht5 ht1
          generalize hsv : (hs k).s = sv at *
          clear hsv
          rcases hst with rfl | rfl | rfl | rfl | rfl | rfl | rfl
          · have hat := ht5 (.inr rfl)
            subst hat
            clear ht5 ht1
            go_upto_region 18 with fail
            refine wp_region_later (by kernel_rfl) (by kernel_rfl) ?_
            repeat (go_big_quiet_step (fail))
            refine wpQuiet_nil ?_
            rintro _ ⟨xq, rfl⟩
            have HK9 := hid (HK9.out.later xq.below)
            clear m0 m1 m2 m3 m4 zq
            obtain ⟨m0, m1, m2, m3, m4, zq⟩ := HK9.out.map.facts
            go_upto_region 20 with fail
            refine wp_region_later (by kernel_rfl) (by kernel_rfl) ?_
            repeat (go_big_quiet_step (first | (go_at_call 31; with_reducible exact later_call (Last_any _ _ _ _ _ (HK9.out.later (Later.below _)).mem)) | (go_at_call 32; first | (with_reducible exact later_call (HN0.out _)) | (with_reducible exact later_call (HN1.out _)))))
            refine wpQuiet_nil ?_
            rintro _ ⟨xq, rfl⟩
            have HK9 := hid (HK9.out.later xq.below)
            clear m0 m1 m2 m3 m4 zq
            obtain ⟨m0, m1, m2, m3, m4, zq⟩ := HK9.out.map.facts
            go_wp2_with fail
            go_roundw
            case rel => exact ⟨j + 1, by omega, by go_num, _, _, HI2.out, HK9.out⟩
            case measure => simp [intOf]; omega
          · have hat := ht1 rfl
            subst hat
            clear ht5 ht1
            go_upto_region 18 with fail
            refine wp_region_later (by kernel_rfl) (by kernel_rfl) ?_
            repeat (go_big_quiet_step (fail))
            refine wpQuiet_nil ?_
            rintro _ ⟨xq, rfl⟩
            have HK9 := hid (HK9.out.later xq.below)
            clear m0 m1 m2 m3 m4 zq
            obtain ⟨m0, m1, m2, m3, m4, zq⟩ := HK9.out.map.facts
            go_upto_region 20 with fail
            refine wp_region_later (by kernel_rfl) (by kernel_rfl) ?_
            repeat (go_big_quiet_step (first | (go_at_call 31; with_reducible exact later_call (Last_any _ _ _ _ _ (HK9.out.later (Later.below _)).mem)) | (go_at_call 32; first | (with_reducible exact later_call (HN0.out _)) | (with_reducible exact later_call (HN1.out _)))))
            refine wpQuiet_nil ?_
            rintro _ ⟨xq, rfl⟩
            have HK9 := hid (HK9.out.later xq.below)
            clear m0 m1 m2 m3 m4 zq
            obtain ⟨m0, m1, m2, m3, m4, zq⟩ := HK9.out.map.facts
            go_wp2_with fail
            go_roundw
            case rel => exact ⟨j + 1, by omega, by go_num, _, _, HI2.out, HK9.out⟩
            case measure => simp [intOf]; omega
          · clear ht5 ht1
            go_upto_region 18 with fail
            refine wp_region_later (by kernel_rfl) (by kernel_rfl) ?_
            repeat (go_big_quiet_step (fail))
            refine wpQuiet_nil ?_
            rintro _ ⟨xq, rfl⟩
            have HK9 := hid (HK9.out.later xq.below)
            clear m0 m1 m2 m3 m4 zq
            obtain ⟨m0, m1, m2, m3, m4, zq⟩ := HK9.out.map.facts
            go_upto_region 20 with fail
            refine wp_region_later (by kernel_rfl) (by kernel_rfl) ?_
            repeat (go_big_quiet_step (fail))
            refine wpQuiet_nil ?_
            rintro _ ⟨xq, rfl⟩
            have HK9 := hid (HK9.out.later xq.below)
            clear m0 m1 m2 m3 m4 zq
            obtain ⟨m0, m1, m2, m3, m4, zq⟩ := HK9.out.map.facts
            go_wp2_with fail
            go_roundw
            case rel => exact ⟨j + 1, by omega, by go_num, _, _, HI2.out, HK9.out⟩
            case measure => simp [intOf]; omega
          · clear ht5 ht1
            go_upto_region 18 with fail
            refine wp_region_later (by kernel_rfl) (by kernel_rfl) ?_
            repeat (go_big_quiet_step (fail))
            refine wpQuiet_nil ?_
            rintro _ ⟨xq, rfl⟩
            have HK9 := hid (HK9.out.later xq.below)
            clear m0 m1 m2 m3 m4 zq
            obtain ⟨m0, m1, m2, m3, m4, zq⟩ := HK9.out.map.facts
            go_upto_region 20 with fail
            refine wp_region_later (by kernel_rfl) (by kernel_rfl) ?_
            repeat (go_big_quiet_step (fail))
            refine wpQuiet_nil ?_
            rintro _ ⟨xq, rfl⟩
            have HK9 := hid (HK9.out.later xq.below)
            clear m0 m1 m2 m3 m4 zq
            obtain ⟨m0, m1, m2, m3, m4, zq⟩ := HK9.out.map.facts
            go_wp2_with fail
            go_roundw
            case rel => exact ⟨j + 1, by omega, by go_num, _, _, HI2.out, HK9.out⟩
            case measure => simp [intOf]; omega
          · clear ht5 ht1
            go_upto_region 18 with fail
            refine wp_region_later (by kernel_rfl) (by kernel_rfl) ?_
            repeat (go_big_quiet_step (fail))
            refine wpQuiet_nil ?_
            rintro _ ⟨xq, rfl⟩
            have HK9 := hid (HK9.out.later xq.below)
            clear m0 m1 m2 m3 m4 zq
            obtain ⟨m0, m1, m2, m3, m4, zq⟩ := HK9.out.map.facts
            go_upto_region 20 with fail
            refine wp_region_later (by kernel_rfl) (by kernel_rfl) ?_
            repeat (go_big_quiet_step (fail))
            refine wpQuiet_nil ?_
            rintro _ ⟨xq, rfl⟩
            have HK9 := hid (HK9.out.later xq.below)
            clear m0 m1 m2 m3 m4 zq
            obtain ⟨m0, m1, m2, m3, m4, zq⟩ := HK9.out.map.facts
            go_wp2_with fail
            go_roundw
            case rel => exact ⟨j + 1, by omega, by go_num, _, _, HI2.out, HK9.out⟩
            case measure => simp [intOf]; omega
          · have hat := ht5 (.inl rfl)
            subst hat
            clear ht5 ht1
            go_upto_region 18 with fail
            refine wp_region_later (by kernel_rfl) (by kernel_rfl) ?_
            repeat (go_big_quiet_step (first | (go_at_call 31; with_reducible exact later_call (Last_any _ _ _ _ _ (HK9.out.later (Later.below _)).mem)) | (go_at_call 32; first | (with_reducible exact later_call (HN0.out _)) | (with_reducible exact later_call (HN1.out _)))))
            refine wpQuiet_nil ?_
            rintro _ ⟨xq, rfl⟩
            have HK9 := hid (HK9.out.later xq.below)
            clear m0 m1 m2 m3 m4 zq
            obtain ⟨m0, m1, m2, m3, m4, zq⟩ := HK9.out.map.facts
            go_upto_region 20 with fail
            refine wp_region_later (by kernel_rfl) (by kernel_rfl) ?_
            repeat (go_big_quiet_step (first | (go_at_call 31; with_reducible exact later_call (Last_any _ _ _ _ _ (HK9.out.later (Later.below _)).mem)) | (go_at_call 32; first | (with_reducible exact later_call (HN0.out _)) | (with_reducible exact later_call (HN1.out _)))))
            refine wpQuiet_nil ?_
            rintro _ ⟨xq, rfl⟩
            have HK9 := hid (HK9.out.later xq.below)
            clear m0 m1 m2 m3 m4 zq
            obtain ⟨m0, m1, m2, m3, m4, zq⟩ := HK9.out.map.facts
            go_wp2_with fail
            go_roundw
            case rel => exact ⟨j + 1, by omega, by go_num, _, _, HI2.out, HK9.out⟩
            case measure => simp [intOf]; omega
          · clear ht5 ht1
            go_upto_region 18 with fail
            refine wp_region_later (by kernel_rfl) (by kernel_rfl) ?_
            repeat (go_big_quiet_step (fail))
            refine wpQuiet_nil ?_
            rintro _ ⟨xq, rfl⟩
            have HK9 := hid (HK9.out.later xq.below)
            clear m0 m1 m2 m3 m4 zq
            obtain ⟨m0, m1, m2, m3, m4, zq⟩ := HK9.out.map.facts
            go_upto_region 20 with fail
            refine wp_region_later (by kernel_rfl) (by kernel_rfl) ?_
            repeat (go_big_quiet_step (fail))
            refine wpQuiet_nil ?_
            rintro _ ⟨xq, rfl⟩
            have HK9 := hid (HK9.out.later xq.below)
            clear m0 m1 m2 m3 m4 zq
            obtain ⟨m0, m1, m2, m3, m4, zq⟩ := HK9.out.map.facts
            go_wp2_with fail
            go_roundw
            case rel => exact ⟨j + 1, by omega, by go_num, _, _, HI2.out, HK9.out⟩
            case measure => simp [intOf]; omega
        · obtain rfl : j = len0 := by omega
          go_wp2_with (go_at_call 8; (with_reducible refine (told9_any _).mono ?_); rintro e w7 ⟨rfl, hb7⟩; have HB7 := hid hb7; clear hb7)
          go_ret
          exact ⟨rfl, bthen HK.out.below HB7.out⟩

end Go.Proofs.Ytmngpgocpamfgaa
