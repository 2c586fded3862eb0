/-
  The document's example of the lock of numbers.
-/
import Derived.Test.YtpphllijbbcdcaaBoth
import Derived.Test.YtpphllijbbcdcaaTktR
namespace Go.Proofs.Ytpphllijbbcdcaa
open Go.RowKit
attribute [local go_sem] Later.cell Later.frozen

theorem zrow_len (N : Nat) : (MS.new (zrow N)).zs.length = N := by simp [MS.new, zrow]

def told1 : HD × MS := tkTake mp4 (MS.new (zrow 48)) h0
def told2 : HD × MS := tkTake mp4 told1.2 told1.1
theorem told1_eq : told1.1 = ⟨0, 0, 1, false, 0⟩ := sameH_iff.1 (by decide +kernel)
theorem told2_eq : told2.1 = ⟨0, 0, 9, false, 0⟩ := sameH_iff.1 (by decide +kernel)
theorem told2_steps : told2.2.steps = 2 := by decide +kernel
theorem told1_len : told1.2.zs.length = 48 := by decide +kernel

/-- A map, and a memory that was made behind it. -/
structure MapMem (w : World) (q b : Nat) (vw : Value) (s : MS) (W : World) : Prop where
  map : MapAt 26 W q mp4
  mem : Mem W w.heap.size b vw s
  qm : ¬ MemS b vw q
  q0 : w.heap.size ≤ q
  below : Below w.heap.size w W
theorem MapMem.later {w : World} {q b : Nat} {vw : Value} {s : MS} {W W' : World} (k : MapMem w q b vw s W) (hb : Below W.heap.size W W') : MapMem w q b vw s W' :=
  ⟨k.map.below hb, k.mem.kept (Wrote.of_below hb (fun _ => False)) (fun _ _ h => h), k.qm, k.q0, bthen k.below hb⟩
theorem MapMem.next {w : World} {q b : Nat} {vw : Value} {s s' : MS} {W W' : World} (k : MapMem w q b vw s W) (hm : Mem W' w.heap.size b vw s') (hw : Wrote (MemS b vw) W W') : MapMem w q b vw s' W' :=
  ⟨(hw.block q k.map.lt k.qm).trans k.map, hm, k.qm, k.q0, k.below.trans (hw.below k.below.size k.mem.old)⟩

set_option maxHeartbeats 4000000 in
theorem told8_any (w : World) : Calls Try.prog 21 #[] w fun e w' => e = .returned (.bool true) ∧ Below w.heap.size w w' := by
  obtain ⟨cs, hcs, hmk⟩ := zmake 48 (by omega)
  have HCS := hid hcs
  have hmk : ∀ W : World, (Instr.makeSlice 42 (.int .i64 48) (.int .i64 48)).run Try.prog W = .ok (.slice (some ⟨W.heap.size, 0, none⟩) 48 48) (W.alloc (.cells cs 2)) := hmk
  have HSZ := hid (fun (x : World) => (show Calls Try.prog 41 #[mp4.v] x fun e w' => e = .returned (.int .i64 48) ∧ Below x.heap.size x w' from by have := Size_any mp4 x; rwa [mp4_size] at this))
  clear hcs
  go_enter Try.func21, Try.ntmps21
  go_upto_region 2 with (go_at_call 7; (with_reducible refine (Map_any _).mono ?_); rintro e w1 ⟨rfl, hb1⟩; have HB1 := hid hb1; clear hb1)
  refine wp_rename (fun W => MapAt 26 W w1.heap.size mp4 ∧ Below w.heap.size w W) ⟨MapAt.new _ w1 mp4, bnew HB1.out _⟩ ?_
  have hq0 := HB1.out.size
  generalize w1.heap.size = q at *
  rintro W ⟨hk, hb⟩
  have HK := hid hk
  have HB := hid hb
  obtain ⟨m0, m1, m2, m3, m4, _⟩ := hk.facts
  clear hk hb HB1
  go_upto_region 3 with (first | (go_at_call 41; (with_reducible refine (HSZ.out _).mono ?_); rintro e w2 ⟨rfl, hb2⟩; have HB2 := hid hb2; have HR := hid (IntRow.lit (zrow 48) 2 w2 cs HCS.out 48 rfl); clear hb2) | (go_at_call 16; (with_reducible refine (New_any _ _ _ _ _ HR.out (by omega)).mono ?_); rintro e w3 ⟨b, vw, rfl, hm, hb3⟩; have HM := hid hm; have HB3 := hid hb3; clear hm hb3))
  have HW := hid (show MapMem w q b vw (MS.new (zrow 48)) w3 from by
    have hB := bthen (bnew HB2.out (.cells cs 2)) HB3.out
    have hlt : q < (w2.alloc (.cells cs 2)).heap.size := by have := HB2.out.size; have := HK.out.lt; simp; omega
    have hle : w.heap.size ≤ (w2.alloc (.cells cs 2)).heap.size := by have := HB2.out.size; have := HK.out.lt; simp; omega
    exact ⟨HK.out.below hB, HM.out.mono hle, HM.out.old q hlt, hq0, bthen HB.out hB⟩)
  refine wp_rename _ HW.out ?_
  clear HW HM HB3 HB2 HR hmk HB HK m0 m1 m2 m3 m4
  intro W3 hk
  have HK := hid hk
  obtain ⟨m0, m1, m2, m3, m4, _⟩ := hk.map.facts
  clear hk
  have HT1 := hid (fun (x : World) (hm : Mem x w.heap.size b vw (MS.new (zrow 48))) => (show Calls Try.prog 14 #[mp4.v, .pointer (some ⟨b, 0, none⟩), h0.v] x (HandRet 65 2 ⟨0, 0, 1, false, 0⟩ told1.2 w.heap.size b vw x) from by
    rw [← told1_eq]
    exact Take_any mp4 h0 x _ b vw _ hm (by rw [mp4_size, zrow_len]; decide) mp4_ok))
  have HT2 := hid (fun (x : World) (hm : Mem x w.heap.size b vw told1.2) => (show Calls Try.prog 14 #[mp4.v, .pointer (some ⟨b, 0, none⟩), (HD.mk 0 0 1 false 0).v] x (HandRet 65 2 ⟨0, 0, 9, false, 0⟩ told2.2 w.heap.size b vw x) from by
    rw [← told2_eq, ← told1_eq]
    exact Take_any mp4 told1.1 x _ b vw _ hm (by rw [mp4_size, told1_len]; decide) mp4_ok))
  go_upto_region 6 with (go_at_call 14; (with_reducible refine (HT1.out _ HK.out.mem).mono ?_); rintro e w4 ⟨rfl, hm4, hw4⟩; have HK4 := hid (HK.out.next hm4 hw4); clear hm4 hw4)
  have HN := hid (show ¬ MemS b vw w4.heap.size from fun h => absurd (HK4.out.mem.hold _ h) (Nat.lt_irrefl _))
  refine wp_rename (fun W => MapMem w q b vw told1.2 W ∧ HandAt W w4.heap.size ⟨0, 0, 1, false, 0⟩) ⟨HK4.out.later (bnew (bid _) _), HandAt.new w4 ⟨0, 0, 1, false, 0⟩⟩ ?_
  generalize w4.heap.size = q4 at HN ⊢
  clear HK HK4 HT1 m0 m1 m2 m3 m4
  rintro W4 ⟨hk, hh⟩
  have HK := hid hk
  have HH := hid hh
  obtain ⟨m0, m1, m2, m3, m4, _⟩ := hk.map.facts
  obtain ⟨d0, d1, d2, d3, d4, df⟩ := hh.facts
  clear hk hh
  go_upto_region 7 with (go_at_call 14; (with_reducible refine (HT2.out _ HK.out.mem).mono ?_); rintro e w5 ⟨rfl, hm5, hw5⟩; have HK5 := hid (HK.out.next hm5 hw5); have HW5 := hid hw5; clear hm5 hw5)
  refine wp_rename (fun W => MapMem w q b vw told2.2 W ∧ HandAt W q4 ⟨0, 0, 1, false, 0⟩ ∧ HandAt W w5.heap.size ⟨0, 0, 9, false, 0⟩) ⟨HK5.out.later (bnew (bid _) _), (HH.out.kept HW5.out HN.out).below (bnew (bid _) _), HandAt.new w5 ⟨0, 0, 9, false, 0⟩⟩ ?_
  generalize w5.heap.size = q5
  clear HK HK5 HT2 HH HW5 HN m0 m1 m2 m3 m4 d0 d1 d2 d3 d4 df
  rintro W5 ⟨hk, hh, hg⟩
  have HK := hid hk
  obtain ⟨_, _, d2, _, d4, _⟩ := hh.facts
  obtain ⟨_, _, e2, _, _, _⟩ := hg.facts
  clear hk hh hg
  go_wp2_with (go_at_call 13; (with_reducible refine (Steps_any _ _ _ _ _ HK.out.mem).mono ?_); rw [told2_steps]; rintro e w6 ⟨rfl, rfl⟩)
  go_ret
  exact ⟨rfl, HK.out.below⟩

end Go.Proofs.Ytpphllijbbcdcaa
