/-
  ClockJoin: a stamp that may be joined is above what the clock was at its beginning.
-/
import Derived.Test.YtkfajeimfpbfdaaClkO
namespace Go.Proofs.Ytkfajeimfpbfdaa
open Go.RowKit
attribute [local go_sem] Later.cell Later.frozen

set_option maxRecDepth 100000 in
set_option maxHeartbeats 8000000 in
theorem join_any (a0 : Option Addr) (len0 cap0 : Nat) (zs0 : List Int) (w : World) (hr0 : IntRow w a0 len0 zs0) (hl0 : len0 ≤ maxLen) :
    Calls Try.prog 5 #[.slice a0 len0 cap0] w fun e w' => e = .returned (.bool true) ∧ Below w.heap.size w w' := by
  unfold maxLen at hl0
  have HR0 := hid hr0
  clear hr0
  by_cases hlen : 100 < len0
  · go_enter Try.func5, Try.ntmps5
    go_wp2_with (go_at_call 16; (with_reducible refine (told11_any _).mono ?_); rintro e w1 ⟨rfl, hb1⟩)
    go_ret
    exact ⟨rfl, hb1⟩
  have HBP := hid (bumps_any 1 2 2 (.inr (.inl ⟨rfl, rfl, rfl⟩)) a0 len0 cap0 zs0 w HR0.out (by omega))
  go_enter Try.func5, Try.ntmps5
  go_upto_region 4 with (go_at_call 23; (with_reducible refine HBP.out.mono ?_); rintro e w4 ⟨vo, vb, out, beg, v, bs, fs, rfl, hbi, ho, hb, hbl⟩; have HBI := hid hbi; have HK4 := hid (⟨ho, hb, hbl⟩ : OwAt w vo vb out beg w4); clear hbi ho hb hbl)
  refine wp_rename _ HK4.out ?_
  clear HBP HK4
  intro W5 hk
  have HK := hid hk
  clear hk
  obtain ⟨aa, ca, rfl, haa, _, _, _⟩ := HK.out.outs.form
  obtain ⟨ab, cb, rfl, hab, _, _, _⟩ := HK.out.begs.form
  have HAA := hid haa
  have HAB := hid hab
  have HF := hid (show v ≤ (len0 : Int) ∧ (∀ i, i < out.length → 0 ≤ beg.getD i 0 ∧ beg.getD i 0 < out.getD i 0 ∧ out.getD i 0 ≤ v) ∧ out.length ≤ 100 ∧ beg.length = out.length from
    ⟨HBI.out.join rfl, HBI.out.up, by have h1 := HBI.out.few; omega, HBI.out.len⟩)
  clear HBI
  have hbn := HF.out.2.2.2
  have hnl : out.length ≤ 100 := HF.out.2.2.1
  generalize hNN : out.length = N at *
  have HNN := hid hNN
  rw [hbn]
  have HBN := hid hbn
  clear hNN haa hab hbn
  have hN100 : (N : Int) ≤ 100 := by omega
  go_wp2_with fail
  go_loopw [7, 8] (fun x i W => ∃ m : Nat, m ≤ N ∧ i = .int .i64 m ∧ (∃ T : Int, x = .int .i64 T ∧ 0 ≤ T ∧ (0 < m → 0 < T)) ∧ OwAt w (.slice aa N ca) (.slice ab N cb) out beg W) (fun _ i _ => N - (intOf i).toNat)
  case atStart => exact ⟨0, by omega, rfl, ⟨0, rfl, by omega, fun h => by omega⟩, by have h := HK.out; rw [HBN.out] at h; exact h⟩
  case round =>
    clear HK
    obtain ⟨m, hmN, rfl, ⟨T, rfl, hT0, hT⟩, hR⟩ := hrel
    have HK := hid hR
    have HT := hid (And.intro hT0 hT)
    clear hR hT0 hT
    by_cases hlt : m < N
    · have n1 : (0 : Int) ≤ (m : Int) := by omega
      have n2 : (m : Int) < (N : Int) := by omega
      obtain ⟨ga, rfl⟩ := HAA.out (by omega)
      obtain ⟨gb, rfl⟩ := HAB.out (by rw [HBN.out]; omega)
      obtain ⟨c0, f0⟩ := HK.out.outs.at (k := m) (by rw [HNN.out]; exact hlt)
      obtain ⟨c1, f1⟩ := HK.out.begs.at (k := m) (by rw [HBN.out]; exact hlt)
      obtain ⟨g0, g1, g2⟩ := HF.out.2.1 m hlt
      generalize out.getD m 0 = x1 at *
      generalize beg.getD m 0 = y1 at *
      have hle : decide (x1 ≤ y1) = false := decide_eq_false (by omega)
      have hgt : decide (v < x1) = false := decide_eq_false (by omega)
      have HX := hid (show 0 < x1 from by omega)
      clear g0 g1 g2
      go_upto_region 10 with fail
      go_quiet (fail)
      go_wp2_with fail
      go_roundw
      case rel =>
        refine ⟨m + 1, by omega, by go_num, ⟨_, rfl, ?_, fun _ => ?_⟩, HK.out.later ⟨rfl, rfl, rfl, Nat.le_refl _, fun _ _ => rfl⟩⟩
        · have h1 := HX.out
          have h2 := HT.out.1
          first | omega | (split <;> omega)
        · have h1 := HX.out
          have h2 := HT.out.1
          first | omega | (split <;> omega)
      case measure => simp [intOf]; omega
    · obtain rfl : m = N := by omega
      have hv : decide (v ≤ (len0 : Int)) = true := decide_eq_true HF.out.1
      have hT2 := HT.out.2
      by_cases h0 : m = 0
      · subst h0
        go_wp2_with (go_at_call 16; (with_reducible refine (told11_any _).mono ?_); rintro e w6 ⟨rfl, hb6⟩)
        go_ret
        exact ⟨rfl, bthen HK.out.below hb6⟩
      · have hTb : decide (0 < T) = true := decide_eq_true (hT2 (by omega))
        have hmb : ((m : Int) == 0) = false := by simp; omega
        clear hT2
        go_wp2_with (go_at_call 16; (with_reducible refine (told11_any _).mono ?_); rintro e w6 ⟨rfl, hb6⟩)
        go_ret
        exact ⟨rfl, bthen HK.out.below hb6⟩

end Go.Proofs.Ytkfajeimfpbfdaa
