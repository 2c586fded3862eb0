/-
  RwEnds: all that come, to read or to write, have it in the end, and leave nothing behind.
-/
import Derived.Test.YtmcmajndcbobpaaRwTell
namespace Go.Proofs.Ytmcmajndcbobpaa
open Go.RowKit
attribute [local go_sem] Later.cell Later.frozen

set_option maxRecDepth 100000 in
set_option maxHeartbeats 8000000 in
theorem rwends_any (a0 : Option Addr) (len0 cap0 : Nat) (zs0 : List Int) (x1 : Int) (w : World) (hr0 : IntRow w a0 len0 zs0) (hl0 : len0 ≤ maxLen) :
    Calls Try.prog 7 #[.slice a0 len0 cap0, .int .i64 x1] w fun e w' => e = .returned (.bool true) ∧ Below w.heap.size w w' := by
  unfold maxLen at hl0
  have HR0 := hid hr0
  clear hr0
  by_cases hlen : 200 < len0
  · go_enter Try.func7, Try.ntmps7
    go_wp2_with (go_at_call 20; (with_reducible refine (told10_any _).mono ?_); rintro e w1 ⟨rfl, hb1⟩)
    go_ret
    exact ⟨rfl, hb1⟩
  have HBO := hid (fun (x : World) => (show Calls Try.prog 25 #[mp4.v] x (MadeBoth 48 x) from by have := Both_any mp4 x mp4_ok; rwa [mp4_size] at this))
  go_enter Try.func7, Try.ntmps7
  go_upto_region 4 with (go_at_call 8; (with_reducible refine (Map_any _).mono ?_); rintro e w1 ⟨rfl, hb1⟩; have HB1 := hid hb1; clear hb1)
  refine wp_rename (fun W => MapAt 26 W w1.heap.size mp4 ∧ Below w.heap.size w W) ⟨MapAt.new _ w1 mp4, bnew HB1.out _⟩ ?_
  have hq0 := HB1.out.size
  generalize w1.heap.size = q at hq0 ⊢
  clear HB1
  rintro W ⟨hk, hb⟩
  have HK := hid hk
  have HB := hid hb
  obtain ⟨m0, m1, m2, m3, m4, _⟩ := hk.facts
  clear hk hb
  go_upto_region 7 with (go_at_call 25; (with_reducible refine (HBO.out _).mono ?_); rintro e w2 ⟨b, vw, c, vr, rfl, hp, hb2⟩; have HP := hid hp; have HB2 := hid hb2; clear hp hb2)
  refine wp_rename (fun W' => MapMem w q b vw (MS.new (zrow 48)) W') ⟨HK.out.below HB2.out, HP.out.mem.mono HB.out.size, HP.out.mem.old q HK.out.lt, hq0, bthen HB.out HB2.out⟩ ?_
  clear HP HB2 HB HK HBO m0 m1 m2 m3 m4 hq0
  intro W3 hk
  have HK := hid hk
  clear hk
  go_upto_region 8 with fail
  refine wp_rename (fun W' => CwAt w q W3.heap.size b vw (MS.new (zrow 48)) (fun _ => h0) (fun _ => false) (fun _ => 0) W') (CwAt.new HK.out) ?_
  generalize W3.heap.size = qc
  clear HK
  intro W4 hk
  have HK := hid hk
  clear hk
  have HN0 := hid (show ∃ (j : Nat) (s : MS) (hs : Nat → HD) (os : Nat → Bool) (n N : Nat → Nat) (qq sw hd : List Nat), j ≤ len0 + 400 ∧ (.int .i64 0 : Value) = .int .i64 j ∧ EnInv s hs os n N qq sw hd ∧ RPot s hs qq n len0 j ∧ CwAt w q qc b vw s hs os (fun t => (N t : Nat)) W4 from
    ⟨0, _, _, _, _, fun _ => 0, _, _, _, by omega, rfl, EnInv.start, .inl (by omega), HK.out⟩)
  clear HK
  go_wp2_with fail
  go_loopw [9] (fun i W => ∃ (j : Nat) (s : MS) (hs : Nat → HD) (os : Nat → Bool) (n N : Nat → Nat) (qq sw hd : List Nat), j ≤ len0 + 400 ∧ i = .int .i64 j ∧ EnInv s hs os n N qq sw hd ∧ RPot s hs qq n len0 j ∧ CwAt w q qc b vw s hs os (fun t => (N t : Nat)) W) (fun i _ => len0 + 400 - (intOf i).toNat)
  case atStart => exact HN0.out
  case round =>
    clear HN0
    obtain ⟨j, s, hs, os, n, N, qq, sw, hd, hj, rfl, hI, hP, hR⟩ := hrel
    have HI := hid hI
    have HP := hid hP
    have HK := hid hR
    clear hI hP hR
    have hj1 : ((j : Nat) : Int) + 1 ≤ 100000 := by omega
    have r1 : IntKind.i64.wrap ((len0 : Int) + 400) = ((len0 + 400 : Nat) : Int) := by rw [IntKind.wrap_i64]; omega
    have r2 : IntKind.i64.wrap ((j : Int) + 1) = ((j + 1 : Nat) : Int) := by rw [IntKind.wrap_i64]; omega
    have r3 : (j : Int).tmod 4 = ((j % 4 : Nat) : Int) := by rw [Int.tmod_eq_emod_of_nonneg (by omega)]; omega
    have r4 : IntKind.i64.wrap ((j % 4 : Nat) : Int) = ((j % 4 : Nat) : Int) := by rw [IntKind.wrap_i64]; omega
    have r5 : wrap64 ((j % 4 : Nat) : Int) = ((j % 4 : Nat) : Int) := by rw [wrap_small (by omega) (by omega)]
    generalize hn40 : len0 + 400 = n40 at r1
    by_cases hlt : j < n40
    · go_upto_if 36 with fail
      go_cut [10] (fun v W => (∃ k : Nat, k < 4 ∧ v = .int .i64 k ∧ (j % 4 = k ∨ j < len0)) ∧ W = wr)
      case first =>
        clear r1 r2 r3 r4 r5 hn40 hlt hj1
        by_cases hl : j < len0
        · obtain ⟨g, off, rfl, _, hc⟩ := (HR0.out.kept (Wrote.of_below HK.out.mm.below (fun _ => False)) fun _ _ _ h => h).at (by omega)
          have c0 := hc j hl
          generalize zs0.getD j 0 = z at c0
          clear hc
          have i1 : (0 : Int) ≤ (j : Int) := by omega
          have i2 : (j : Int) < (len0 : Int) := by omega
          obtain ⟨k, hk4, hkk⟩ := pick_of4 z
          go_wp2_with fail
          go_meet
          case rel => exact ⟨⟨k, hk4, by rw [hkk], .inr hl⟩, rfl⟩
        · go_wp2_with fail
          go_meet
          case rel => exact ⟨⟨j % 4, by omega, by simp, .inl rfl⟩, rfl⟩
      case rest =>
        obtain ⟨⟨k, hk4, rfl, hown⟩, rfl⟩ := hcut
        have HOWN := hid hown
        have HLT := hid hlt
        have HN40 := hid hn40
        have HJB := hid hj
        clear hown r1 r3 r4 r5 hlt hj hn40
        have k1 : (0 : Int) ≤ (k : Int) := by omega
        have k2 : (k : Int) < 4 := by omega
        obtain ⟨_, _, _, _, _, _, e6, _⟩ := HK.out.cr.facts hk4
        by_cases hnR : N k < 2
        · have HNR := hid hnR
          have e7 : ((N k : Nat) : Int) < 2 := by omega
          clear hnR
          obtain ⟨m0, m1, m2, m3, m4, _⟩ := HK.out.mm.map.facts
          have HSP := hid (fun rd => HK.out.tellEnd HI.out hk4 HNR.out HP.out HOWN.out rd)
          generalize N k = nk at *
          go_upto_region 10 with (go_at_call 26; (with_reducible refine (HSP.out _).mono ?_); rintro e w5 ⟨rfl, s5, hs5, os5, n5, N5, q5, sw5, hd5, hi5, hp5, hm5, hc5, hw5⟩; have HK5 := hid (HK.out.step hm5 hc5 hw5); have HI5 := hid hi5; have HP5 := hid hp5; clear hm5 hc5 hw5 hi5 hp5)
          clear m0 m1 m2 m3 m4 e6 e7
          go_wp2_with fail
          go_roundw
          case rel => exact ⟨j + 1, _, _, _, _, _, _, _, _, by have := HLT.out; have := HN40.out; omega, by go_num, HI5.out, HP5.out, HK5.out⟩
          case measure => have h1 := HLT.out; have h2 := HN40.out; simp [intOf]; omega
        · have HNR := hid (show 2 ≤ N k by omega)
          have e7 : ¬ ((N k : Nat) : Int) < 2 := by omega
          clear hnR
          go_wp2_with fail
          go_roundw
          case rel => exact ⟨j + 1, _, _, _, _, _, _, _, _, by have := HLT.out; have := HN40.out; omega, by go_num, HI.out, HP.out.skip HI.out.rb HI.out.si HI.out.cnt hk4 HOWN.out HNR.out, HK.out⟩
          case measure => have h1 := HLT.out; have h2 := HN40.out; simp [intOf]; omega
    · have hje : j = len0 + 400 := by omega
      have HD := hid (HI.out.done (by rw [← hje]; exact HP.out))
      have HLEN := hid HI.out.si.len
      clear r2 r3 r4 r5 hje hj1 HI HP
      go_wp2_with fail
      clear hlt hn40 hj r1
      go_loopw [11] (fun i W => ∃ m : Nat, m ≤ 4 ∧ i = .int .i64 m ∧ CwAt w q qc b vw s hs os (fun t => (N t : Nat)) W) (fun i _ => 4 - (intOf i).toNat)
      case atStart => exact ⟨0, by omega, rfl, HK.out⟩
      case round =>
        clear HK
        obtain ⟨m, hm, rfl, hR⟩ := hrel
        have HK := hid hR
        clear hR
        by_cases hm4 : m < 4
        · have n1 : (0 : Int) ≤ (m : Int) := by omega
          have n2 : (m : Int) < 4 := by omega
          obtain ⟨_, _, _, _, _, _, e6, _⟩ := HK.out.cr.facts hm4
          have e7 : ((N m : Nat) : Int) = 2 := by rw [HD.out.2.2 m hm4]; rfl
          rw [e7] at e6
          clear e7
          go_wp2_with fail
          go_roundw
          case rel => exact ⟨m + 1, by omega, by go_num, HK.out⟩
          case measure => simp [intOf]; omega
        · obtain rfl : m = 4 := by omega
          obtain ⟨m0, m1, m2, m3, m4, _⟩ := HK.out.mm.map.facts
          have hv4 : s.vAt (mp4.at_ 3 0 0) = 0 := by rw [tail_at, vAt_nat (by rw [HLEN.out]; decide)]; exact HD.out.1
          have hv7 : s.vAt (mp4.at_ 3 0 3) = 0 := by rw [at7, vAt_nat (by rw [HLEN.out]; decide)]; exact HD.out.2.1
          have HIN := hid (fun (x : World) (hm : Mem x w.heap.size b vw s) => (show Calls Try.prog 23 #[mp4.v, .pointer (some ⟨b, 0, none⟩), .int .i64 0] x fun e w' => e = .returned (.int .i64 0) ∧ Below x.heap.size x w' from by
            have := Inside_any mp4 0 x _ b vw s hm (by rw [mp4_size, HLEN.out]; decide)
            rwa [hv7] at this))
          have HLK := hid (fun (x : World) => Lock_any mp4 0 0 x)
          have HPK := hid (fun (x : World) (hm : Mem x w.heap.size b vw s) => (show Calls Try.prog 28 #[.pointer (some ⟨b, 0, none⟩), .int .i64 (mp4.at_ 3 0 0)] x fun e w' => e = .returned (.int .i64 0) ∧ x = w' from by
            have := Peek_at (mp4.at_ 3 0 0) x _ b vw s hm
            rwa [hv4] at this))
          clear hv4 hv7
          generalize mp4.at_ 3 0 0 = pt at *
          go_wp2_with (first | (go_at_call 20; (with_reducible refine (told10_any _).mono ?_); rintro e w6 ⟨rfl, hb6⟩; have HK := hid (HK.out.later hb6); clear hb6 m0 m1 m2 m3 m4; obtain ⟨m0, m1, m2, m3, m4, _⟩ := HK.out.mm.map.facts) | (go_at_call 23; (with_reducible refine (HIN.out _ HK.out.mm.mem).mono ?_); rintro e w7 ⟨rfl, hb7⟩; have HK := hid (HK.out.later hb7); clear hb7 m0 m1 m2 m3 m4; obtain ⟨m0, m1, m2, m3, m4, _⟩ := HK.out.mm.map.facts) | (go_at_call 29; (with_reducible refine (HLK.out _).mono ?_); rintro e w8 ⟨rfl, hb8⟩; have HK := hid (HK.out.later hb8); clear hb8 m0 m1 m2 m3 m4) | (go_at_call 28; (with_reducible refine (HPK.out _ HK.out.mm.mem).mono ?_); rintro e w9 ⟨rfl, rfl⟩))
          go_ret
          exact ⟨rfl, HK.out.mm.below⟩

end Go.Proofs.Ytmcmajndcbobpaa
