/-
  ClockOwn: stamps that are one's own rise, and the last one is the clock.
-/
import Derived.Test.YtkfajeimfpbfdaaBumps
import Derived.Deep.DeepCutAuto
namespace Go.Proofs.Ytkfajeimfpbfdaa
open Go.RowKit
attribute [local go_sem] Later.cell Later.frozen

/-- Two lists of one's own. -/
structure OwAt (w : World) (vo vb : Value) (out beg : List Int) (W : World) : Prop where
  outs : JL W w.heap.size vo out
  begs : JL W w.heap.size vb beg
  below : Below w.heap.size w W
theorem OwAt.later {w : World} {vo vb : Value} {out beg : List Int} {W W' : World} (k : OwAt w vo vb out beg W) (h : Below W.heap.size W W') : OwAt w vo vb out beg W' :=
  ⟨k.outs.kept (Wrote.of_below h (fun _ => False)) (fun _ _ h => h), k.begs.kept (Wrote.of_below h (fun _ => False)) (fun _ _ h => h), bthen k.below h⟩

set_option maxRecDepth 100000 in
set_option maxHeartbeats 8000000 in
theorem own_any (a0 : Option Addr) (len0 cap0 : Nat) (zs0 : List Int) (norec : Bool) (w : World) (hr0 : IntRow w a0 len0 zs0) (hl0 : len0 ≤ maxLen) :
    Calls Try.prog 4 #[.slice a0 len0 cap0, .bool norec] w fun e w' => e = .returned (.bool true) ∧ Below w.heap.size w w' := by
  unfold maxLen at hl0
  have HR0 := hid hr0
  clear hr0
  by_cases hlen : 100 < len0
  · go_enter Try.func4, Try.ntmps4
    go_wp2_with (go_at_call 16; (with_reducible refine (told11_any _).mono ?_); rintro e w1 ⟨rfl, hb1⟩)
    go_ret
    exact ⟨rfl, hb1⟩
  go_enter Try.func4, Try.ntmps4
  go_upto_if 17 with fail
  go_cut [5, 6] (fun v5 v6 W => (∃ e0 by0 K : Int, v5 = .int .i64 e0 ∧ v6 = .int .i64 by0 ∧ ((e0 = 1 ∧ by0 = 1 ∧ K = 1) ∨ (e0 = 2 ∧ by0 = 2 ∧ K = 3))) ∧ W = w)
  case first =>
    cases norec
    · go_wp2_with fail
      go_meet
      case rel => exact ⟨⟨1, 1, 1, rfl, rfl, .inl ⟨rfl, rfl, rfl⟩⟩, rfl⟩
    · go_wp2_with fail
      go_meet
      case rel => exact ⟨⟨2, 2, 3, rfl, rfl, .inr ⟨rfl, rfl, rfl⟩⟩, rfl⟩
  case rest =>
  obtain ⟨⟨e0, by0, K, rfl, rfl, hm⟩, rfl⟩ := hcut
  have HBP := hid (bumps_any e0 1 K (by rcases hm with ⟨rfl, rfl, rfl⟩ | ⟨rfl, rfl, rfl⟩ <;> simp) a0 len0 cap0 zs0 wc HR0.out (by omega))
  have HM := hid hm
  clear hm
  go_upto_region 7 with (go_at_call 23; (with_reducible refine HBP.out.mono ?_); rintro e w4 ⟨vo, vb, out, beg, v, bs, fs, rfl, hbi, ho, hb, hbl⟩; have HBI := hid hbi; have HK4 := hid (⟨ho, hb, hbl⟩ : OwAt wc vo vb out beg w4); clear hbi ho hb hbl)
  refine wp_rename _ HK4.out ?_
  clear HBP HK4
  intro W5 hk
  have HK := hid hk
  clear hk
  obtain ⟨aa, ca, rfl, haa, _, _, _⟩ := HK.out.outs.form
  obtain ⟨ab, cb, rfl, hab, _, _, _⟩ := HK.out.begs.form
  have HAA := hid haa
  have HAB := hid hab
  have HF := hid (show v = by0 * (out.length : Int) ∧ (∀ i, i < out.length → out.getD i 0 = by0 * ((i : Int) + 1) ∧ beg.getD i 0 < by0 * ((i : Int) + 1)) ∧ out.length ≤ 100 ∧ beg.length = out.length ∧ (by0 = 1 ∨ by0 = 2) from by
    have h1 := HBI.out.few
    have hK : K ≠ 2 := by rcases HM.out with ⟨_, _, rfl⟩ | ⟨_, _, rfl⟩ <;> decide
    have hb : (if K = 1 then 1 else 2) = by0 := by rcases HM.out with ⟨_, rfl, rfl⟩ | ⟨_, rfl, rfl⟩ <;> rfl
    obtain ⟨o1, o2⟩ := HBI.out.own hK
    rw [hb] at o1 o2
    refine ⟨o1, fun i hi => ⟨o2 i hi, ?_⟩, by omega, HBI.out.len, by rcases HM.out with ⟨_, rfl, _⟩ | ⟨_, rfl, _⟩ <;> simp⟩
    rw [← o2 i hi]
    exact (HBI.out.up i hi).2.1)
  have hbn := HF.out.2.2.2.1
  have hnl : out.length ≤ 100 := HF.out.2.2.1
  generalize hNN : out.length = N at *
  have HNN := hid hNN
  rw [hbn]
  have HBN := hid hbn
  clear hNN haa hab hbn
  have hN100 : (N : Int) ≤ 100 := by omega
  go_wp2_with fail
  go_loopw [11, 12] (fun x i W => ∃ m : Nat, m ≤ N ∧ i = .int .i64 m ∧ x = .int .i64 (by0 * (m : Int)) ∧ OwAt wc (.slice aa N ca) (.slice ab N cb) out beg W) (fun _ i _ => N - (intOf i).toNat)
  case atStart => exact ⟨0, by omega, rfl, by simp, by have h := HK.out; rw [HBN.out] at h; exact h⟩
  case round =>
    clear HK
    obtain ⟨m, hmN, rfl, rfl, hR⟩ := hrel
    have HK := hid hR
    clear hR
    by_cases hlt : m < N
    · have n1 : (0 : Int) ≤ (m : Int) := by omega
      have n2 : (m : Int) < (N : Int) := by omega
      obtain ⟨ga, rfl⟩ := HAA.out (by omega)
      obtain ⟨gb, rfl⟩ := HAB.out (by rw [HBN.out]; omega)
      obtain ⟨c0, f0⟩ := HK.out.outs.at (k := m) (by rw [HNN.out]; exact hlt)
      obtain ⟨c1, f1⟩ := HK.out.begs.at (k := m) (by rw [HBN.out]; exact hlt)
      obtain ⟨g0, g1⟩ := HF.out.2.1 m hlt
      rw [g0] at c0
      have hby := HF.out.2.2.2.2
      have hwx : wrap64 (by0 * (m : Int) + by0) = by0 * ((m : Int) + 1) := by
        rcases hby with rfl | rfl
        · rw [wrap_near (by omega) (by omega)]; omega
        · rw [wrap_near (by omega) (by omega)]; omega
      have hle : decide (by0 * ((m : Int) + 1) ≤ beg.getD m 0) = false := decide_eq_false (by omega)
      generalize hx2 : by0 * ((m : Int) + 1) = x2 at *
      generalize by0 * (m : Int) = x1 at *
      generalize beg.getD m 0 = y1 at *
      clear g0 g1 hby
      go_upto_region 13 with fail
      go_quiet (fail)
      go_wp2_with fail
      go_roundw
      case rel => exact ⟨m + 1, by omega, by go_num, by rw [← hx2]; push_cast; rfl, HK.out.later ⟨rfl, rfl, rfl, Nat.le_refl _, fun _ _ => rfl⟩⟩
      case measure => simp [intOf]; omega
    · obtain rfl : m = N := by omega
      have hv := HF.out.1
      rw [hv]
      go_wp2_with (go_at_call 16; (with_reducible refine (told11_any _).mono ?_); rintro e w6 ⟨rfl, hb6⟩)
      go_ret
      exact ⟨rfl, bthen HK.out.below hb6⟩

end Go.Proofs.Ytkfajeimfpbfdaa
