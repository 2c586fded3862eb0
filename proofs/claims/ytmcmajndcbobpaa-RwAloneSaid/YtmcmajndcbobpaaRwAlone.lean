/-
  RwAlone: a writer that holds the lock is alone.
-/
import Derived.Test.YtmcmajndcbobpaaCwAt
namespace Go.Proofs.Ytmcmajndcbobpaa
open Go.RowKit
attribute [local go_sem] Later.cell Later.frozen

def CrTell (w : World) (qc b : Nat) (vw : Value) (V : World) (e : Ending) (W : World) : Prop :=
  e = .returned (.tuple #[]) ∧ ∃ s hs os ns, CrInv s hs os ∧ Mem W w.heap.size b vw s ∧ CrAt W qc hs os ns ∧ Wrote (fun j => MemS b vw j ∨ j = qc) V W
theorem CwAt.tell {w : World} {q qc b : Nat} {vw : Value} {s : MS} {hs : Nat → HD} {os : Nat → Bool} {ns : Nat → Int} {V : World} (h : CwAt w q qc b vw s hs os ns V) (hI : CrInv s hs os) {k : Nat} (hk : k < 4) (rd lv : Bool) :
    Calls Try.prog 26 #[.pointer (some ⟨qc, 0, none⟩), mp4.v, .pointer (some ⟨b, 0, none⟩), .int .i64 k, .bool rd, .bool lv] V (CrTell w qc b vw V) :=
  (step_any V qc _ b vw s hs os ns k hk rd lv h.mm.mem hI.len h.cr h.fr).mono fun _ _ ⟨h1, h2, h3, h4⟩ => ⟨h1, _, _, _, _, hI.step hk (ns k) rd lv, h2, h3, h4⟩

set_option maxRecDepth 100000 in
set_option maxHeartbeats 8000000 in
theorem rwalone_any (a0 : Option Addr) (len0 cap0 : Nat) (zs0 : List Int) (w : World) (hr0 : IntRow w a0 len0 zs0) (hl0 : len0 ≤ maxLen) :
    Calls Try.prog 5 #[.slice a0 len0 cap0] w fun e w' => e = .returned (.bool true) ∧ Below w.heap.size w w' := by
  unfold maxLen at hl0
  have HR0 := hid hr0
  clear hr0
  by_cases hlen : 300 < len0
  · go_enter Try.func5, Try.ntmps5
    go_wp2_with (go_at_call 20; (with_reducible refine (told10_any _).mono ?_); rintro e w1 ⟨rfl, hb1⟩)
    go_ret
    exact ⟨rfl, hb1⟩
  have HBO := hid (fun (x : World) => (show Calls Try.prog 25 #[mp4.v] x (MadeBoth 48 x) from by have := Both_any mp4 x mp4_ok; rwa [mp4_size] at this))
  go_enter Try.func5, Try.ntmps5
  go_upto_region 4 with (go_at_call 8; (with_reducible refine (Map_any _).mono ?_); rintro e w1 ⟨rfl, hb1⟩; have HB1 := hid hb1; clear hb1)
  refine wp_rename (fun W => MapAt 26 W w1.heap.size mp4 ∧ Below w.heap.size w W) ⟨MapAt.new _ w1 mp4, bnew HB1.out _⟩ ?_
  have hq0 := HB1.out.size
  generalize w1.heap.size = q at hq0 ⊢
  clear HB1
  rintro W ⟨hk, hb⟩
  have HK := hid hk
  have HB := hid hb
  obtain ⟨m0, m1, m2, m3, m4, _⟩ := hk.facts
  clear hk hb
  go_upto_region 7 with (go_at_call 25; (with_reducible refine (HBO.out _).mono ?_); rintro e w2 ⟨b, vw, c, vr, rfl, hp, hb2⟩; have HP := hid hp; have HB2 := hid hb2; clear hp hb2)
  refine wp_rename (fun W' => MapMem w q b vw (MS.new (zrow 48)) W') ⟨HK.out.below HB2.out, HP.out.mem.mono HB.out.size, HP.out.mem.old q HK.out.lt, hq0, bthen HB.out HB2.out⟩ ?_
  clear HP HB2 HB HK HBO m0 m1 m2 m3 m4 hq0
  intro W3 hk
  have HK := hid hk
  clear hk
  go_upto_region 8 with fail
  refine wp_rename (fun W' => CwAt w q W3.heap.size b vw (MS.new (zrow 48)) (fun _ => h0) (fun _ => false) (fun _ => 0) W') (CwAt.new HK.out) ?_
  generalize W3.heap.size = qc
  clear HK
  intro W4 hk
  have HK := hid hk
  clear hk
  go_wp2_with fail
  go_loopw [7] (fun i W => ∃ j : Nat, j ≤ len0 ∧ i = .int .i64 j ∧ ∃ s hs os ns, CrInv s hs os ∧ CwAt w q qc b vw s hs os ns W) (fun i _ => len0 - (intOf i).toNat)
  case atStart => exact ⟨0, by omega, rfl, _, _, _, _, CrInv.start, HK.out⟩
  case round =>
    clear HK
    obtain ⟨j, hj, rfl, s, hs, os, ns, hI, hR⟩ := hrel
    have HI := hid hI
    have HK := hid hR
    clear hI hR
    by_cases hlt : j < len0
    · obtain ⟨g, off, rfl, hg, hc⟩ := HR0.out.at (by omega)
      have c0 : wr.cell? ⟨g, off + j, none⟩ = some (.int .i64 (zs0.getD j 0)) := (HK.out.mm.below.cell (p := ⟨g, off + j, none⟩) (World.block_lt_of_cell? w _ (hc j hlt))).trans (hc j hlt)
      have cz : g < wr.heap.size := Nat.lt_of_lt_of_le hg HK.out.mm.below.size
      generalize zs0.getD j 0 = z at c0
      clear hc hg
      have i1 : (0 : Int) ≤ (j : Int) := by omega
      have i2 : (j : Int) < (len0 : Int) := by omega
      obtain ⟨m0, m1, m2, m3, m4, _⟩ := HK.out.mm.map.facts
      have mz := HK.out.mm.map.lt
      go_upto_region 11 with fail
      refine wp_region_later_tail 25 (by kernel_rfl) (by kernel_rfl) ?_
      simp only [List.take_succ_cons, List.take_zero, List.drop_succ_cons, List.drop_zero]
      repeat (go_big_quiet_step (fail))
      refine wpQuiet_nil ?_
      rintro _ ⟨xq, rfl⟩
      have HK := hid (HK.out.later xq.below)
      clear m0 m1 m2 m3 m4 mz c0 cz
      obtain ⟨k, hk4, hkk⟩ := pick_of4 z
      rw [hkk]
      clear hkk
      generalize xq.v = V at *
      have HSP := hid (fun rd lv => HK.out.tell HI.out hk4 rd lv)
      go_upto_region 12 with (go_at_call 26; (with_reducible refine (HSP.out _ _).mono ?_); rintro e w5 ⟨rfl, s5, hs5, os5, ns5, hi5, hm5, hc5, hw5⟩; have HK5 := hid (HK.out.step hm5 hc5 hw5); have HI5 := hid hi5; clear hm5 hc5 hw5 hi5)
      refine wp_rename (fun W => ∃ s hs os ns, CrInv s hs os ∧ CwAt w q qc b vw s hs os ns W) ⟨_, _, _, _, HI5.out, HK5.out⟩ ?_
      clear HK HK5 HI5 HSP HI
      rintro W6 ⟨s, hs, os, ns, hI, hk⟩
      have HI := hid hI
      have HK := hid hk
      clear hI hk
      have HHD := hid (held_any W6 qc hs os ns HK.out.cr)
      have HAL := hid HI.out.alone
      generalize heldW hs 4 = ha at *
      generalize heldR hs 4 = hb at *
      rcases HAL.out with rfl | ⟨rfl, rfl⟩
      · go_wp2_with (go_at_call 27; (with_reducible refine HHD.out.mono ?_); rintro e w7 ⟨rfl, rfl⟩)
        go_roundw
        case rel => exact ⟨j + 1, by omega, by go_num, _, _, _, _, HI.out, HK.out⟩
        case measure => simp [intOf]; omega
      · go_wp2_with (go_at_call 27; (with_reducible refine HHD.out.mono ?_); rintro e w7 ⟨rfl, rfl⟩)
        go_roundw
        case rel => exact ⟨j + 1, by omega, by go_num, _, _, _, _, HI.out, HK.out⟩
        case measure => simp [intOf]; omega
    · obtain rfl : j = len0 := by omega
      go_wp2_with (go_at_call 20; (with_reducible refine (told10_any _).mono ?_); rintro e w8 ⟨rfl, hb8⟩; have HK := hid (HK.out.later hb8); clear hb8)
      go_ret
      exact ⟨rfl, HK.out.mm.below⟩

end Go.Proofs.Ytmcmajndcbobpaa
