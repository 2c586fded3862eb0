/-
  RwTogether: readers do not wait for each other.
-/
import Derived.Test.YtmcmajndcbobpaaRwTell
namespace Go.Proofs.Ytmcmajndcbobpaa
open Go.RowKit
attribute [local go_sem] Later.cell Later.frozen

theorem pick_ofK {K : Nat} (h0 : 0 < K) (h4 : K ≤ 4) (z : Int) : ∃ k : Nat, k < K ∧ wrap64 ((IntKind.u64.wrap z).tmod (K : Int)) = (k : Int) := by
  have h := u64_from0 z
  generalize IntKind.u64.wrap z = u at *
  have e : u.tmod (K : Int) = u % (K : Int) := Int.tmod_eq_emod_of_nonneg h
  have l1 : 0 ≤ u % (K : Int) := Int.emod_nonneg _ (by omega)
  have l2 : u % (K : Int) < (K : Int) := Int.emod_lt_of_pos _ (by omega)
  rw [e, wrap_small (by omega) (by omega)]
  exact ⟨(u % (K : Int)).toNat, by omega, by omega⟩

set_option maxRecDepth 100000 in
set_option maxHeartbeats 8000000 in
theorem rwtog_any (x0 : Int) (a0 : Option Addr) (len0 cap0 : Nat) (zs0 : List Int) (w : World) (hr0 : IntRow w a0 len0 zs0) (hl0 : len0 ≤ maxLen) :
    Calls Try.prog 6 #[.int .i64 x0, .slice a0 len0 cap0] w fun e w' => e = .returned (.bool true) ∧ Below w.heap.size w w' := by
  unfold maxLen at hl0
  have HR0 := hid hr0
  clear hr0
  by_cases hlen : 100 < len0
  · go_enter Try.func6, Try.ntmps6
    go_wp2_with (go_at_call 20; (with_reducible refine (told10_any _).mono ?_); rintro e w1 ⟨rfl, hb1⟩)
    go_ret
    exact ⟨rfl, hb1⟩
  have HBO := hid (fun (x : World) => (show Calls Try.prog 25 #[mp4.v] x (MadeBoth 48 x) from by have := Both_any mp4 x mp4_ok; rwa [mp4_size] at this))
  go_enter Try.func6, Try.ntmps6
  go_upto_region 4 with (go_at_call 8; (with_reducible refine (Map_any _).mono ?_); rintro e w1 ⟨rfl, hb1⟩; have HB1 := hid hb1; clear hb1)
  refine wp_rename (fun W => MapAt 26 W w1.heap.size mp4 ∧ Below w.heap.size w W) ⟨MapAt.new _ w1 mp4, bnew HB1.out _⟩ ?_
  have hq0 := HB1.out.size
  generalize w1.heap.size = q at hq0 ⊢
  clear HB1
  rintro W ⟨hk, hb⟩
  have HK := hid hk
  have HB := hid hb
  obtain ⟨m0, m1, m2, m3, m4, _⟩ := hk.facts
  clear hk hb
  go_upto_region 7 with (go_at_call 25; (with_reducible refine (HBO.out _).mono ?_); rintro e w2 ⟨b, vw, c, vr, rfl, hp, hb2⟩; have HP := hid hp; have HB2 := hid hb2; clear hp hb2)
  refine wp_rename (fun W' => MapMem w q b vw (MS.new (zrow 48)) W') ⟨HK.out.below HB2.out, HP.out.mem.mono HB.out.size, HP.out.mem.old q HK.out.lt, hq0, bthen HB.out HB2.out⟩ ?_
  clear HP HB2 HB HK HBO m0 m1 m2 m3 m4 hq0
  intro W3 hk
  have HK := hid hk
  clear hk
  go_upto_region 8 with fail
  obtain ⟨r, hr4, hrr⟩ := pick_of4 x0
  rw [hrr]
  clear hrr
  obtain ⟨K, hKr⟩ : ∃ K : Nat, K = r + 1 := ⟨_, rfl⟩
  have hK1 : wrap64 (1 + (r : Int)) = (K : Int) := by rw [wrap_small (by omega) (by omega)]; omega
  rw [hK1]
  have hK0 : 0 < K := by omega
  have hK4 : K ≤ 4 := by omega
  clear hK1 hKr hr4
  go_upto_region 9 with fail
  refine wp_rename (fun W' => CwAt w q W3.heap.size b vw (MS.new (zrow 48)) (fun _ => h0) (fun _ => false) (fun _ => 0) W') (CwAt.new HK.out) ?_
  generalize W3.heap.size = qc
  clear HK
  intro W4 hk
  have HK := hid hk
  clear hk
  have HN0 := hid (show ∃ (j : Nat) (s : MS) (hs : Nat → HD) (os : Nat → Bool) (ns : Nat → Int) (n : Nat → Nat) (qq sw hd : List Nat), j ≤ len0 + 200 ∧ (.int .i64 0 : Value) = .int .i64 j ∧ TInv K s hs os n qq sw hd ∧ TPot s hs qq n K len0 j ∧ CwAt w q qc b vw s hs os ns W4 from by
    obtain ⟨n, sw, hd, hI⟩ := TInv.start K
    exact ⟨0, _, _, _, _, n, _, sw, hd, by omega, rfl, hI, .inl (by omega), HK.out⟩)
  clear HK
  have HK04 := hid (And.intro hK0 hK4)
  have kk1 : (0 : Int) < (K : Int) := by omega
  have kk2 : (K : Int) ≤ 4 := by omega
  have kk3 : (K : Int) ≠ 0 := by omega
  clear hK0 hK4
  go_wp2_with fail
  go_loopw [10] (fun i W => ∃ (j : Nat) (s : MS) (hs : Nat → HD) (os : Nat → Bool) (ns : Nat → Int) (n : Nat → Nat) (qq sw hd : List Nat), j ≤ len0 + 200 ∧ i = .int .i64 j ∧ TInv K s hs os n qq sw hd ∧ TPot s hs qq n K len0 j ∧ CwAt w q qc b vw s hs os ns W) (fun i _ => len0 + 200 - (intOf i).toNat)
  case atStart => exact HN0.out
  case round =>
    clear HN0
    obtain ⟨j, s, hs, os, ns, n, qq, sw, hd, hj, rfl, hI, hP, hR⟩ := hrel
    have HI := hid hI
    have HP := hid hP
    have HK := hid hR
    clear hI hP hR
    have hj1 : ((j : Nat) : Int) + 1 ≤ 100000 := by omega
    have r1 : IntKind.i64.wrap ((len0 : Int) + 200) = ((len0 + 200 : Nat) : Int) := by rw [IntKind.wrap_i64]; omega
    have r2 : IntKind.i64.wrap ((j : Int) + 1) = ((j + 1 : Nat) : Int) := by rw [IntKind.wrap_i64]; omega
    have hjm : j % K < K := Nat.mod_lt _ HK04.out.1
    have r3 : (j : Int).tmod (K : Int) = ((j % K : Nat) : Int) := by rw [Int.tmod_eq_emod_of_nonneg (by omega)]; omega
    have r4 : IntKind.i64.wrap ((j % K : Nat) : Int) = ((j % K : Nat) : Int) := by have := HK04.out.2; rw [IntKind.wrap_i64]; omega
    have r5 : wrap64 ((j % K : Nat) : Int) = ((j % K : Nat) : Int) := by have := HK04.out.2; rw [wrap_small (by omega) (by omega)]
    generalize hn40 : len0 + 200 = n40 at r1
    by_cases hlt : j < n40
    · go_upto_if 44 with fail
      go_cut [11] (fun v W => (∃ k : Nat, k < K ∧ v = .int .i64 k ∧ (j % K = k ∨ j < len0)) ∧ W = wr)
      case first =>
        clear r1 r2 hn40 hlt hj1
        by_cases hl : j < len0
        · clear r3 r4 r5
          obtain ⟨g, off, rfl, _, hc⟩ := (HR0.out.kept (Wrote.of_below HK.out.mm.below (fun _ => False)) fun _ _ _ h => h).at (by omega)
          have c0 := hc j hl
          generalize zs0.getD j 0 = z at c0
          clear hc
          have i1 : (0 : Int) ≤ (j : Int) := by omega
          have i2 : (j : Int) < (len0 : Int) := by omega
          have hukk : IntKind.u64.wrap (K : Int) = (K : Int) := by rw [IntKind.wrap_u64]; omega
          obtain ⟨k, hk4, hkk⟩ := pick_ofK HK04.out.1 HK04.out.2 z
          go_wp2_with fail
          go_meet
          case rel => exact ⟨⟨k, hk4, by rw [hkk], .inr hl⟩, rfl⟩
        · go_wp2_with fail
          go_meet
          case rel => exact ⟨⟨j % K, hjm, by simp, .inl rfl⟩, rfl⟩
      case rest =>
        obtain ⟨⟨k, hk4, rfl, hown⟩, rfl⟩ := hcut
        have HOWN := hid hown
        have HLT := hid hlt
        have HN40 := hid hn40
        have HJB := hid hj
        clear hown r1 r3 r4 r5 hlt hj hn40 hjm
        obtain ⟨m0, m1, m2, m3, m4, _⟩ := HK.out.mm.map.facts
        have HSP := hid (HK.out.tellTog HI.out HK04.out.1 HK04.out.2 hk4 HP.out HOWN.out)
        go_upto_region 11 with (go_at_call 26; (with_reducible refine HSP.out.mono ?_); rintro e w5 ⟨rfl, s5, hs5, os5, ns5, n5, q5, sw5, hd5, hi5, hp5, hm5, hc5, hw5⟩; have HK5 := hid (HK.out.step hm5 hc5 hw5); have HI5 := hid hi5; have HP5 := hid hp5; clear hm5 hc5 hw5 hi5 hp5)
        clear m0 m1 m2 m3 m4
        go_wp2_with fail
        go_roundw
        case rel => exact ⟨j + 1, _, _, _, _, _, _, _, _, by have := HLT.out; have := HN40.out; omega, by go_num, HI5.out, HP5.out, HK5.out⟩
        case measure => have h1 := HLT.out; have h2 := HN40.out; simp [intOf]; omega
    · have hje : j = len0 + 200 := by omega
      have HD := hid (HI.out.all HK04.out.2 (TPot.done HI.out (by rw [← hje]; exact HP.out)))
      have HLEN := hid HI.out.si.len
      clear r2 r3 r4 r5 hje hj1 HI HP hjm
      have hv7 : s.vAt (mp4.at_ 3 0 3) = (K : Nat) := by rw [at7, vAt_nat (by rw [HLEN.out]; decide)]; exact HD.out.2.2
      have HIN := hid (fun (x : World) (hm : Mem x w.heap.size b vw s) => (show Calls Try.prog 23 #[mp4.v, .pointer (some ⟨b, 0, none⟩), .int .i64 0] x fun e w' => e = .returned (.int .i64 (K : Nat)) ∧ Below x.heap.size x w' from by
        have := Inside_any mp4 0 x _ b vw s hm (by rw [mp4_size, HLEN.out]; decide)
        rwa [hv7] at this))
      have HHD := hid (show Calls Try.prog 27 #[.pointer (some ⟨qc, 0, none⟩)] wr fun e w' => e = .returned (.tuple #[.int .i64 (0 : Nat), .int .i64 (K : Nat)]) ∧ wr = w' from by
        have := held_any wr qc hs os ns HK.out.cr
        rwa [HD.out.1, HD.out.2.1] at this)
      clear hv7
      obtain ⟨m0, m1, m2, m3, m4, _⟩ := HK.out.mm.map.facts
      go_wp2_with (first | (go_at_call 27; (with_reducible refine HHD.out.mono ?_); rintro e w5 ⟨rfl, rfl⟩) | (go_at_call 20; (with_reducible refine (told10_any _).mono ?_); rintro e w6 ⟨rfl, hb6⟩; have HK := hid (HK.out.later hb6); clear hb6 m0 m1 m2 m3 m4; obtain ⟨m0, m1, m2, m3, m4, _⟩ := HK.out.mm.map.facts) | (go_at_call 23; (with_reducible refine (HIN.out _ HK.out.mm.mem).mono ?_); rintro e w7 ⟨rfl, hb7⟩; have HK := hid (HK.out.later hb7); clear hb7 m0 m1 m2 m3 m4; obtain ⟨m0, m1, m2, m3, m4, _⟩ := HK.out.mm.map.facts))
      go_ret
      exact ⟨rfl, HK.out.mm.below⟩

end Go.Proofs.Ytmcmajndcbobpaa
