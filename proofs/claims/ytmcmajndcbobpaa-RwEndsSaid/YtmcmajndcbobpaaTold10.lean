/-
  The document's example of the lock with readers.
-/
import Derived.Test.YtmcmajndcbobpaaRwT
namespace Go.Proofs.Ytmcmajndcbobpaa
open Go.RowKit
attribute [local go_sem] Later.cell Later.frozen

def tkr : Nat → HD × MS
  | 0 => (⟨1, 0, 0, true, 0⟩, MS.new (zrow 48))
  | k + 1 => rwTake mp4 (tkr k).2 (tkr k).1
theorem tkr_eq : (tkr 7).1 = ⟨1, 0, 9, true, 0⟩ := sameH_iff.1 (by decide +kernel)
theorem tkr_steps : (tkr 7).2.steps = 7 := by decide +kernel
theorem tkr_in : (tkr 7).2.vAt (mp4.at_ 3 0 3) = 1 := by decide +kernel
theorem tkr_drop : (rwDrop mp4 (tkr 7).2 ⟨1, 0, 9, true, 0⟩).1 = ⟨1, 0, 0, true, 0⟩ := sameH_iff.1 (by decide +kernel)
theorem tkr_len (k : Nat) : (tkr k).2.zs.length = 48 := by
  induction k with
  | zero => exact zrow_len 48
  | succ k ih => show (rwTake _ _ _).2.zs.length = 48; rw [len_rwTake, ih]
theorem field_hand (t l s x : Int) (r : Bool) (W : World) : (Instr.field 24 (.agg #[.int .i64 t, .int .i64 l, .int .i64 s, .bool r, .int .i64 x]) 2).run Try.prog W = .ok (.int .i64 s) W := by kernel_rfl

set_option maxRecDepth 100000 in
set_option maxHeartbeats 8000000 in
theorem told10_any (w : World) : Calls Try.prog 20 #[] w fun e w' => e = .returned (.bool true) ∧ Below w.heap.size w w' := by
  have HBO := hid (fun (x : World) => (show Calls Try.prog 25 #[mp4.v] x (MadeBoth 48 x) from by have := Both_any mp4 x mp4_ok; rwa [mp4_size] at this))
  go_enter Try.func20, Try.ntmps20
  go_upto_region 2 with (go_at_call 8; (with_reducible refine (Map_any _).mono ?_); rintro e w1 ⟨rfl, hb1⟩; have HB1 := hid hb1; clear hb1)
  refine wp_rename (fun W => MapAt 26 W w1.heap.size mp4 ∧ Below w.heap.size w W) ⟨MapAt.new _ w1 mp4, bnew HB1.out _⟩ ?_
  have hq0 := HB1.out.size
  generalize w1.heap.size = q at hq0 ⊢
  clear HB1
  rintro W ⟨hk, hb⟩
  have HK := hid hk
  have HB := hid hb
  obtain ⟨m0, m1, m2, m3, m4, _⟩ := hk.facts
  clear hk hb
  go_upto_region 6 with (go_at_call 25; (with_reducible refine (HBO.out _).mono ?_); rintro e w2 ⟨b, vw, c, vr, rfl, hp, hb2⟩; have HP := hid hp; have HB2 := hid hb2; clear hp hb2)
  have HW := hid (show T9 w q b vw w2.heap.size (tkr 0).2 (tkr 0).1 (w2.alloc (.cells (tkr 0).1.cells 24)) from by
    have hq3 := HB.out.size
    have hq1 := HK.out.lt
    have hq2 := HB2.out.size
    refine ⟨⟨(HK.out.below HB2.out).alloc _, (HP.out.mem.mono hq3).kept (Wrote.of_below (bnew (bid w2) _) (fun _ => False)) (fun _ _ h => h), HP.out.mem.old q hq1, hq0, bnew (bthen HB.out HB2.out) _⟩, HandAt.new _ _, fun e => ?_, by omega, by omega⟩
    exact absurd (HP.out.mem.hold _ e) (Nat.lt_irrefl _))
  refine wp_rename _ HW.out ?_
  generalize w2.heap.size = q4
  clear HW HP HB2 HK HB m0 m1 m2 m3 m4 HBO hq0
  intro W3 hk
  have HK := hid hk
  clear hk
  go_wp2_with fail
  go_loopw [5] (fun i W => ∃ k : Nat, k ≤ 7 ∧ i = .int .i64 k ∧ T9 w q b vw q4 (tkr k).2 (tkr k).1 W) (fun i _ => 7 - (intOf i).toNat)
  case atStart => exact ⟨0, by omega, rfl, HK.out⟩
  case round =>
    clear HK
    obtain ⟨k, hk, rfl, hT⟩ := hrel
    have HK := hid hT
    clear hT
    by_cases hlt : k < 7
    · have i1 : (0 : Int) ≤ (k : Int) := by omega
      have i2 : (k : Int) < 7 := by omega
      have HTK := hid (fun (x : World) (hm : Mem x w.heap.size b vw (tkr k).2) => rwTake_any mp4 (tkr k).1 x _ b vw _ hm (by rw [mp4_size, tkr_len]; decide))
      have HNX := hid (show rwTake mp4 (tkr k).2 (tkr k).1 = tkr (k + 1) from rfl)
      simp only [HNX.out] at HTK
      generalize hg : (tkr k).1 = g at *
      generalize hs : (tkr k).2 = s at *
      generalize hg2 : tkr (k + 1) = r2 at *
      have HG2 := hid hg2
      clear hg hs hg2 HNX
      obtain ⟨gt, gl, gs, gr, gx⟩ := g
      obtain ⟨m0, m1, m2, m3, m4, _⟩ := HK.out.mm.map.facts
      obtain ⟨d0, d1, d2, d3, d4, df⟩ := HK.out.hand.facts
      go_upto_region 8 with (go_at_call 18; (with_reducible refine (HTK.out _ HK.out.mm.mem).mono ?_); rintro e w5 ⟨rfl, hm5, hw5⟩; have HK5 := hid (HK.out.next hm5 hw5); obtain ⟨e0, e1, e2, e3, e4, ef⟩ := HK5.out.hand.facts; clear hm5 hw5)
      refine wp_rename (fun W => T9 w q b vw q4 r2.2 r2.1 W) (HK5.out.set r2.1) ?_
      clear HK5 HK HTK m0 m1 m2 m3 m4 d0 d1 d2 d3 d4 df e0 e1 e2 e3 e4 ef
      intro W6 hk6
      have HK := hid hk6
      clear hk6
      go_wp2_with fail
      go_roundw
      case rel => exact ⟨k + 1, by omega, by go_num, by rw [HG2.out]; exact HK.out⟩
      case measure => simp [intOf]; omega
    · obtain rfl : k = 7 := by omega
      have HK' := HK.out
      rw [tkr_eq] at HK'
      have HK := hid HK'
      clear HK'
      have HIN := hid (fun (x : World) (hm : Mem x w.heap.size b vw (tkr 7).2) => (show Calls Try.prog 23 #[mp4.v, .pointer (some ⟨b, 0, none⟩), .int .i64 0] x fun e w' => e = .returned (.int .i64 1) ∧ Below x.heap.size x w' from by
        have := Inside_any mp4 0 x _ b vw _ hm (by rw [mp4_size, tkr_len]; decide)
        rwa [tkr_in] at this))
      have HDR := hid (fun (x : World) (hm : Mem x w.heap.size b vw (tkr 7).2) => (show Calls Try.prog 16 #[mp4.v, .pointer (some ⟨b, 0, none⟩), (HD.mk 1 0 9 true 0).v] x (HandRet 72 2 ⟨1, 0, 0, true, 0⟩ (rwDrop mp4 (tkr 7).2 ⟨1, 0, 9, true, 0⟩).2 w.heap.size b vw x) from by
        have := rwDrop_any mp4 ⟨1, 0, 9, true, 0⟩ x _ b vw (tkr 7).2 hm (by rw [mp4_size, tkr_len]; decide)
        rwa [tkr_drop] at this))
      have HST := hid tkr_steps
      have hfh := field_hand
      generalize (rwDrop mp4 (tkr 7).2 ⟨1, 0, 9, true, 0⟩).2 = s9 at *
      generalize (tkr 7).2 = s7 at *
      obtain ⟨m0, m1, m2, m3, m4, _⟩ := HK.out.mm.map.facts
      obtain ⟨d0, d1, d2, d3, d4, df⟩ := HK.out.hand.facts
      go_wp2_with (first | (go_at_call 45; (with_reducible refine (Steps_any _ _ _ _ _ HK.out.mm.mem).mono ?_); rw [HST.out]; rintro e w6 ⟨rfl, rfl⟩) | (go_at_call 23; (with_reducible refine (HIN.out _ HK.out.mm.mem).mono ?_); rintro e w7 ⟨rfl, hb7⟩; have HK := hid (HK.out.later hb7); clear hb7 m0 m1 m2 m3 m4 d0 d1 d2 d3 d4 df; obtain ⟨m0, m1, m2, m3, m4, _⟩ := HK.out.mm.map.facts; obtain ⟨d0, d1, d2, d3, d4, df⟩ := HK.out.hand.facts) | (go_at_call 16; (with_reducible refine (HDR.out _ HK.out.mm.mem).mono ?_); rintro e w8 ⟨rfl, hm8, hw8⟩; have HK := hid (HK.out.next hm8 hw8); clear hm8 hw8))
      go_ret
      exact ⟨rfl, HK.out.mm.below⟩

end Go.Proofs.Ytmcmajndcbobpaa
