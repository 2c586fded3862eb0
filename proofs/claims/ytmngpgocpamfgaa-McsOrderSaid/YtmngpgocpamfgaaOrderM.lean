/-
  McsOrder: hands hold the lock one at a time, in the order of their Swaps, and all come to it.
-/
import Derived.Test.YtmngpgocpamfgaaPlay
namespace Go.Proofs.Ytmngpgocpamfgaa
open Go.RowKit
attribute [local go_sem] Later.cell Later.frozen

structure OmAt (w : World) (q b : Nat) (vw : Value) (s : MS) (va vd : Value) (ns : List Nat) (W : World) : Prop where
  mm : MapMem w q b vw s W
  sws : IL W w.heap.size va ns
  hds : IL W w.heap.size vd ns
theorem OmAt.later {w : World} {q b : Nat} {vw : Value} {s : MS} {va vd : Value} {ns : List Nat} {W W' : World} (k : OmAt w q b vw s va vd ns W) (h : Below W.heap.size W W') : OmAt w q b vw s va vd ns W' :=
  ⟨k.mm.later h, k.sws.kept (Wrote.of_below h (fun _ => False)) (fun _ _ h => h), k.hds.kept (Wrote.of_below h (fun _ => False)) (fun _ _ h => h)⟩
theorem pick_of3 (z : Int) : ∃ r : Nat, r < 3 ∧ wrap64 ((IntKind.u64.wrap z).tmod 3) = (r : Int) := by
  have h := u64_from0 z
  generalize IntKind.u64.wrap z = u at *
  have e : u.tmod 3 = u % 3 := Int.tmod_eq_emod_of_nonneg h
  rw [e, wrap_small (by omega) (by omega)]
  exact ⟨(u % 3).toNat, by omega, by omega⟩
theorem nobody_last : ownF mp4 0 0 = -1 := by decide

set_option maxRecDepth 100000 in
set_option maxHeartbeats 8000000 in
theorem morder_any (a0 : Option Addr) (len0 cap0 : Nat) (zs0 : List Int) (x1 : Int) (w : World) (hr0 : IntRow w a0 len0 zs0) (hl0 : len0 ≤ maxLen) :
    Calls Try.prog 5 #[.slice a0 len0 cap0, .int .i64 x1] w fun e w' => e = .returned (.bool true) ∧ Below w.heap.size w w' := by
  unfold maxLen at hl0
  have HR0 := hid hr0
  have HXB := hid (show ∀ x, a0 = some x → 0 < len0 → x.block < w.heap.size from fun x hx hl => by
    subst hx
    obtain ⟨g, off, e, hg, _⟩ := hr0.at hl
    simp only [Option.some.injEq] at e
    rw [e]
    exact hg)
  clear hr0
  by_cases hlen : 200 < len0
  · go_enter Try.func5, Try.ntmps5
    go_wp2_with (go_at_call 8; (with_reducible refine (told9_any _).mono ?_); rintro e w1 ⟨rfl, hb1⟩)
    go_ret
    exact ⟨rfl, hb1⟩
  have HBO := hid (fun (x : World) => (show Calls Try.prog 27 #[mp4.v] x (MadeBoth 48 x) from by have := Both_any mp4 x mp4_ok; rwa [mp4_size] at this))
  go_enter Try.func5, Try.ntmps5
  go_upto_region 4 with (go_at_call 9; (with_reducible refine (Map_any _).mono ?_); rintro e w1 ⟨rfl, hb1⟩; have HB1 := hid hb1; clear hb1)
  refine wp_rename (fun W => MapAt 27 W w1.heap.size mp4 ∧ Below w.heap.size w W) ⟨MapAt.new _ w1 mp4, bnew HB1.out _⟩ ?_
  have hq0 := HB1.out.size
  generalize w1.heap.size = q at hq0 ⊢
  clear HB1
  rintro W ⟨hk, hb⟩
  have HK := hid hk
  have HB := hid hb
  obtain ⟨m0, m1, m2, m3, m4, _⟩ := hk.facts
  clear hk hb
  go_upto_region 7 with (go_at_call 27; (with_reducible refine (HBO.out _).mono ?_); rintro e w2 ⟨b, vw, c, vr, rfl, hp, hb2⟩; have HP := hid hp; have HB2 := hid hb2; clear hp hb2)
  refine wp_rename (fun W' => MapMem w q b vw (MS.new (zrow 48)) W') ⟨HK.out.below HB2.out, HP.out.mem.mono HB.out.size, HP.out.mem.old q HK.out.lt, hq0, bthen HB.out HB2.out⟩ ?_
  clear HP HB2 HB HK HBO m0 m1 m2 m3 m4 hq0
  intro W3 hk
  have HK := hid hk
  obtain ⟨m0, m1, m2, m3, m4, _⟩ := hk.map.facts
  clear hk
  go_upto_region 8 with fail
  obtain ⟨r, hr3, hrr⟩ := pick_of3 x1
  rw [hrr]
  clear hrr
  obtain ⟨R, hRr⟩ : ∃ R : Nat, R = r + 1 := ⟨_, rfl⟩
  have hR1 : wrap64 (1 + (r : Int)) = (R : Int) := by rw [wrap_small (by omega) (by omega)]; omega
  rw [hR1]
  have hR0 : 0 < R := by omega
  have hR3 : R ≤ 3 := by omega
  clear hR1 hRr hr3
  have HPL := hid (play_any R hR0 hR3 a0 len0 cap0 zs0 W3 w.heap.size b vw HK.out.mem (HR0.out.kept (Wrote.of_below HK.out.below (fun _ => False)) fun _ _ _ h => h) (by omega) (fun x hx hl h => HK.out.mem.old _ (HXB.out x hx hl) h))
  have hRp : (0 : Int) < (R : Int) := by omega
  have hRq : (R : Int) ≤ 3 := by omega
  go_upto_region 9 with (go_at_call 28; (with_reducible refine HPL.out.mono ?_); rintro e w4 ⟨va, vd, s, ns, rfl, hln, hia, hid', hm, hz48, hz4, hw⟩; have HN := hid hln; have HIA := hid hia; have HID := hid hid'; have HM := hid hm; have HZ := hid (And.intro hz48 hz4); have HW := hid hw; clear hln hia hid' hm hz48 hz4 hw)
  refine wp_rename (fun W' => OmAt w q b vw s va vd ns W') ⟨HK.out.next HM.out HW.out, HIA.out.mono HK.out.below.size, HID.out.mono HK.out.below.size⟩ ?_
  clear HIA HID HM HW HPL HK m0 m1 m2 m3 m4
  intro W5 hk
  have HK := hid hk
  clear hk
  obtain ⟨aa, ca, rfl, haa, _, _, _⟩ := HK.out.sws.form
  obtain ⟨ad, cd, rfl, had, _, _, _⟩ := HK.out.hds.form
  have hnn : ((ns.length : Nat) : Int) = 4 * (R : Int) := by rw [HN.out]; omega
  have hnl : ns.length ≤ 12 := by rw [HN.out]; omega
  have hnp : 0 < ns.length := by rw [HN.out]; omega
  obtain ⟨ga, rfl⟩ := haa hnp
  obtain ⟨gd, rfl⟩ := had hnp
  have hnb : (((ns.length : Nat) : Int) != 4 * (R : Int)) = false := by rw [hnn]; simp
  generalize hNN : ns.length = N at *
  have HNN := hid hNN
  have HN4 := hid (And.intro hnl hnp)
  clear hNN hnl hnp hnn haa had
  go_wp2_with fail
  clear hnb hRp hRq
  have hN12 : (N : Int) ≤ 12 := by have := HN4.out; omega
  go_loopw [12] (fun i W => ∃ m : Nat, m ≤ N ∧ i = .int .i64 m ∧ OmAt w q b vw s (.slice (some ⟨ga, 0, none⟩) N ca) (.slice (some ⟨gd, 0, none⟩) N cd) ns W) (fun i _ => N - (intOf i).toNat)
  case atStart => exact ⟨0, by omega, rfl, HK.out⟩
  case round =>
    clear HK
    obtain ⟨m, hm, rfl, hR⟩ := hrel
    have HK := hid hR
    clear hR
    by_cases hm4 : m < N
    · have n1 : (0 : Int) ≤ (m : Int) := by omega
      have n2 : (m : Int) < (N : Int) := by omega
      obtain ⟨c0, f0⟩ := HK.out.hds.at (k := m) (by rw [HNN.out]; exact hm4)
      obtain ⟨c1, f1⟩ := HK.out.sws.at (k := m) (by rw [HNN.out]; exact hm4)
      generalize ns.getD m 0 = t at c0 c1
      go_upto_region 14 with fail
      go_quiet (fail)
      go_wp2_with fail
      go_roundw
      case rel => exact ⟨m + 1, by omega, by go_num, HK.out.later ⟨rfl, rfl, rfl, Nat.le_refl _, fun _ _ => rfl⟩⟩
      case measure => simp [intOf]; omega
    · obtain rfl : m = N := by omega
      obtain ⟨m0, m1, m2, m3, m4, _⟩ := HK.out.mm.map.facts
      have hv : s.vAt (mp4.at_ 3 0 0) = 0 := by rw [tail_at, vAt_nat (by rw [HZ.out.1]; decide)]; exact HZ.out.2
      have HLA := hid (fun (x : World) (hm : Mem x w.heap.size b vw s) => (show Calls Try.prog 25 #[mp4.v, .pointer (some ⟨b, 0, none⟩), .int .i64 0] x fun e w' => e = .returned (.int .i64 (-1)) ∧ Below x.heap.size x w' from by
        have := Last_thread mp4 0 x _ b vw s hm (by rw [mp4_size, HZ.out.1]; decide)
        rwa [hv, nobody_last] at this))
      have HLK := hid (fun (x : World) => Lock_any mp4 0 0 x)
      have HPK := hid (fun (x : World) (hm : Mem x w.heap.size b vw s) => (show Calls Try.prog 29 #[.pointer (some ⟨b, 0, none⟩), .int .i64 (mp4.at_ 3 0 0)] x fun e w' => e = .returned (.int .i64 0) ∧ x = w' from by
        have := Peek_at (mp4.at_ 3 0 0) x _ b vw s hm
        rwa [hv] at this))
      clear hv
      generalize mp4.at_ 3 0 0 = pt at *
      go_wp2_with (first | (go_at_call 8; (with_reducible refine (told9_any _).mono ?_); rintro e w6 ⟨rfl, hb6⟩; have HK := hid (HK.out.later hb6); clear hb6 m0 m1 m2 m3 m4; obtain ⟨m0, m1, m2, m3, m4, _⟩ := HK.out.mm.map.facts) | (go_at_call 25; (with_reducible refine (HLA.out _ HK.out.mm.mem).mono ?_); rintro e w7 ⟨rfl, hb7⟩; have HK := hid (HK.out.later hb7); clear hb7 m0 m1 m2 m3 m4; obtain ⟨m0, m1, m2, m3, m4, _⟩ := HK.out.mm.map.facts) | (go_at_call 30; (with_reducible refine (HLK.out _).mono ?_); rintro e w8 ⟨rfl, hb8⟩; have HK := hid (HK.out.later hb8); clear hb8 m0 m1 m2 m3 m4) | (go_at_call 29; (with_reducible refine (HPK.out _ HK.out.mm.mem).mono ?_); rintro e w9 ⟨rfl, rfl⟩))
      go_ret
      exact ⟨rfl, HK.out.mm.below⟩

end Go.Proofs.Ytmngpgocpamfgaa
