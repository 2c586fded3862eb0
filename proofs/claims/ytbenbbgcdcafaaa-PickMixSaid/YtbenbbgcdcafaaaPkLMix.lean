/-
  PickMix, walked.
-/
import Derived.Test.YtbenbbgcdcafaaaPkMix3
namespace Go.Proofs.Ytbenbbgcdcafaaa
open Go.RowKit
set_option linter.unusedVariables false

theorem u64_pos (n : Int) : 0 ≤ IntKind.u64.wrap n := (u64_lt n).1
theorem wf_u64 {n : Int} (h : (Lit.int .u64 n).wf = true) : 0 ≤ n ∧ n ≤ 18446744073709551615 := by
  simpa [Lit.wf, IntKind.min, IntKind.max, IntKind.signed, IntKind.bits] using h
theorem mix_yes {s : Int} {n m : Nat} {many : Int} {w w' : World} {e : Ending} (h : MixRet s n many w e w') (h1 : 1 ≤ n) (h4 : n ≤ 4) (hm : many.toNat = m) :
    ∃ a c, e = .returned (.slice a m c) ∧ PkRow w' a m (mixF s n m) ∧ Below w.heap.size w w' := by
  subst hm
  obtain ⟨⟨_, _, v, e1, h2⟩ | ⟨h0, _⟩, h3⟩ := h
  · obtain ⟨a, c, rfl, hr, -, -, -⟩ := h2.shape
    rw [mixF_len] at hr e1
    exact ⟨a, c, e1, hr, h3⟩
  · omega
theorem mix_no {s n : Int} {many : Int} {w w' : World} {e : Ending} (h : MixRet s n many w e w') (hn : n < 1 ∨ 4 < n) : e = .returned (.slice none 0 0) ∧ Below w.heap.size w w' := by
  obtain ⟨⟨h1, h4, _⟩ | ⟨_, e1⟩, h3⟩ := h
  · omega
  · exact ⟨e1, h3⟩

theorem same_nil (w : World) : Calls Try.prog 10 #[.slice none 0 0, .slice none 0 0] w fun e w' => e = .returned (.bool true) ∧ Below w.heap.size w w' :=
  Same_yes none none 0 0 0 [] w ⟨rfl, .inl rfl⟩ ⟨rfl, .inl rfl⟩ (Nat.zero_le _)
set_option maxRecDepth 100000 in
set_option maxHeartbeats 4000000 in
theorem mix_law (s a1 a2 : Int) (a3 : Bool) (w : World) (s0 : 0 ≤ s) (s1 : s ≤ 18446744073709551615) :
    Calls Try.prog 6 #[.int .u64 s, .int .i64 a1, .int .i64 a2, .bool a3] w fun e w' => e = .returned (.bool true) ∧ Below w.heap.size w w' := by
  have p0 := u64_pos a1
  have p1 := u64_pos a2
  have HT := hid told7
  cases a3
  all_goals go_enter Try.func6, Try.ntmps6
  all_goals go_upto_region 4 with fail
  · generalize 1 + IntKind.u64.wrap a1 % 4 = N
    have hK1 : -1 ≤ IntKind.u64.wrap a2 % 302 - 1 := by omega
    have hK2 : IntKind.u64.wrap a2 % 302 - 1 ≤ 300 := by omega
    clear p0 p1
    generalize IntKind.u64.wrap a2 % 302 - 1 = K at hK1 hK2 ⊢
    have HMX := hid (fun W => Mix_any s N K W (by omega) (by omega) s0 s1)
    have HMR := hid (fun W => RMix_any s N K W (by omega) (by omega) s0 s1)
    cases hin : inB N 1 4
    · have hno := no_of_in hin
      have HNO := hid hno
      rcases hno with hno | hno
      all_goals
        go_wp2_with (first | (go_at_call 16; (with_reducible refine (HMX.out _).mono ?_); rintro e w1 h1; obtain ⟨rfl, hb1⟩ := mix_no h1 HNO.out; have HB1 := hid hb1; clear h1 hb1) | (go_at_call 17; (with_reducible refine (HMR.out _).mono ?_); rintro e w2 h2; obtain ⟨rfl, hb2⟩ := mix_no h2 HNO.out; have HB2 := hid hb2; clear h2 hb2) | (go_at_call 10; (with_reducible refine (same_nil _).mono ?_); rintro e w3 ⟨rfl, hb3⟩; have HB3 := hid (bthen HB2.out hb3); clear hb3) | (go_at_call 8; (with_reducible refine (HT.out _).mono ?_); rintro e w4 ⟨rfl, hb4⟩; have HB4 := hid (bthen HB3.out hb4); clear hb4))
        go_ret
        exact ⟨rfl, bthen HB1.out HB4.out⟩
    · obtain ⟨n1, n4⟩ := inB_iff.1 hin
      obtain ⟨n, rfl⟩ : ∃ n' : Nat, N = (n' : Int) := ⟨N.toNat, by omega⟩
      have hk : ∃ m : Nat, m ≤ 300 ∧ K.toNat = m ∧ (K = (m : Int) ∨ (K = -1 ∧ m ≤ 0)) := ⟨K.toNat, by omega, rfl, by omega⟩
      obtain ⟨m, hm, hkm0, hcase⟩ := hk
      have g1 : 1 ≤ n := by omega
      have g4 : n ≤ 4 := by omega
      have hm5 : m ≤ 100000 := by omega
      have hm6 : m ≤ 1000 := by omega
      have hk1 : (-9223372036854775808 : Int) ≤ 2 * n - 1 := by omega
      have hk2 : (2 * n - 1 : Int) ≤ 9223372036854775807 := by omega
      have HF := hid (fairB_yes (mix_fair s n m g1 g4))
      have HKM := hid hkm0
      clear hkm0
      rcases hcase with rfl | ⟨rfl, hm0⟩
      · have hkm := HKM.out
        have HKM2 := hid hkm
        clear hkm
        go_wp2_with (first | (go_at_call 16; (with_reducible refine (HMX.out _).mono ?_); rintro e w1 h1; obtain ⟨a, c, rfl, hr1, hb1⟩ := mix_yes h1 g1 g4 HKM2.out; have HR1 := hid hr1; have HB1 := hid hb1; clear h1 hr1 hb1) | (go_at_call 17; (with_reducible refine (HMR.out _).mono ?_); rintro e w2 h2; obtain ⟨a', c', rfl, hr2, hb2⟩ := mix_yes h2 g1 g4 HKM2.out; have HR2 := hid hr2; have HB2 := hid hb2; clear h2 hr2 hb2) | (go_at_call 10; (with_reducible refine (Same_yes _ _ _ _ _ _ _ (HR1.out.below HB2.out) HR2.out hm5).mono ?_); rintro e w3 ⟨rfl, hb3⟩; have HB3 := hid (bthen HB2.out hb3); clear hb3) | (go_at_call 8; (with_reducible refine (HT.out _).mono ?_); rintro e w4 ⟨rfl, hb4⟩; have HB4 := hid (bthen HB3.out hb4); clear hb4; have HFA := hid (Fair_any a m c (mixF s n m) n (2 * n - 1) w4 (HR1.out.below HB4.out) hm6 hk1 hk2); rw [HF.out] at HFA) | (go_at_call 14; (with_reducible refine HFA.out.mono ?_); rintro e w5 ⟨rfl, hb5⟩; have HB5 := hid hb5; clear hb5))
        go_ret
        exact ⟨rfl, bthen (bthen HB1.out HB4.out) HB5.out⟩
      · obtain rfl : m = 0 := by omega
        have hkm := HKM.out
        have HKM2 := hid hkm
        clear hkm
        go_wp2_with (first | (go_at_call 16; (with_reducible refine (HMX.out _).mono ?_); rintro e w1 h1; obtain ⟨a, c, rfl, hr1, hb1⟩ := mix_yes h1 g1 g4 HKM2.out; have HR1 := hid hr1; have HB1 := hid hb1; clear h1 hr1 hb1) | (go_at_call 17; (with_reducible refine (HMR.out _).mono ?_); rintro e w2 h2; obtain ⟨a', c', rfl, hr2, hb2⟩ := mix_yes h2 g1 g4 HKM2.out; have HR2 := hid hr2; have HB2 := hid hb2; clear h2 hr2 hb2) | (go_at_call 10; (with_reducible refine (Same_yes _ _ _ _ _ _ _ (HR1.out.below HB2.out) HR2.out hm5).mono ?_); rintro e w3 ⟨rfl, hb3⟩; have HB3 := hid (bthen HB2.out hb3); clear hb3) | (go_at_call 8; (with_reducible refine (HT.out _).mono ?_); rintro e w4 ⟨rfl, hb4⟩; have HB4 := hid (bthen HB3.out hb4); clear hb4; have HFA := hid (Fair_any a 0 c (mixF s n 0) n (2 * n - 1) w4 (HR1.out.below HB4.out) hm6 hk1 hk2); rw [HF.out] at HFA) | (go_at_call 14; (with_reducible refine HFA.out.mono ?_); rintro e w5 ⟨rfl, hb5⟩; have HB5 := hid hb5; clear hb5))
        go_ret
        exact ⟨rfl, bthen (bthen HB1.out HB4.out) HB5.out⟩
  · generalize a1 = N at p0 ⊢
    have hK1 : -1 ≤ IntKind.u64.wrap a2 % 302 - 1 := by omega
    have hK2 : IntKind.u64.wrap a2 % 302 - 1 ≤ 300 := by omega
    clear p0 p1
    generalize IntKind.u64.wrap a2 % 302 - 1 = K at hK1 hK2 ⊢
    have HMX := hid (fun W => Mix_any s N K W (by omega) (by omega) s0 s1)
    have HMR := hid (fun W => RMix_any s N K W (by omega) (by omega) s0 s1)
    cases hin : inB N 1 4
    · have hno := no_of_in hin
      have HNO := hid hno
      rcases hno with hno | hno
      all_goals
        go_wp2_with (first | (go_at_call 16; (with_reducible refine (HMX.out _).mono ?_); rintro e w1 h1; obtain ⟨rfl, hb1⟩ := mix_no h1 HNO.out; have HB1 := hid hb1; clear h1 hb1) | (go_at_call 17; (with_reducible refine (HMR.out _).mono ?_); rintro e w2 h2; obtain ⟨rfl, hb2⟩ := mix_no h2 HNO.out; have HB2 := hid hb2; clear h2 hb2) | (go_at_call 10; (with_reducible refine (same_nil _).mono ?_); rintro e w3 ⟨rfl, hb3⟩; have HB3 := hid (bthen HB2.out hb3); clear hb3) | (go_at_call 8; (with_reducible refine (HT.out _).mono ?_); rintro e w4 ⟨rfl, hb4⟩; have HB4 := hid (bthen HB3.out hb4); clear hb4))
        go_ret
        exact ⟨rfl, bthen HB1.out HB4.out⟩
    · obtain ⟨n1, n4⟩ := inB_iff.1 hin
      obtain ⟨n, rfl⟩ : ∃ n' : Nat, N = (n' : Int) := ⟨N.toNat, by omega⟩
      have hk : ∃ m : Nat, m ≤ 300 ∧ K.toNat = m ∧ (K = (m : Int) ∨ (K = -1 ∧ m ≤ 0)) := ⟨K.toNat, by omega, rfl, by omega⟩
      obtain ⟨m, hm, hkm0, hcase⟩ := hk
      have g1 : 1 ≤ n := by omega
      have g4 : n ≤ 4 := by omega
      have hm5 : m ≤ 100000 := by omega
      have hm6 : m ≤ 1000 := by omega
      have hk1 : (-9223372036854775808 : Int) ≤ 2 * n - 1 := by omega
      have hk2 : (2 * n - 1 : Int) ≤ 9223372036854775807 := by omega
      have HF := hid (fairB_yes (mix_fair s n m g1 g4))
      have HKM := hid hkm0
      clear hkm0
      rcases hcase with rfl | ⟨rfl, hm0⟩
      · have hkm := HKM.out
        have HKM2 := hid hkm
        clear hkm
        go_wp2_with (first | (go_at_call 16; (with_reducible refine (HMX.out _).mono ?_); rintro e w1 h1; obtain ⟨a, c, rfl, hr1, hb1⟩ := mix_yes h1 g1 g4 HKM2.out; have HR1 := hid hr1; have HB1 := hid hb1; clear h1 hr1 hb1) | (go_at_call 17; (with_reducible refine (HMR.out _).mono ?_); rintro e w2 h2; obtain ⟨a', c', rfl, hr2, hb2⟩ := mix_yes h2 g1 g4 HKM2.out; have HR2 := hid hr2; have HB2 := hid hb2; clear h2 hr2 hb2) | (go_at_call 10; (with_reducible refine (Same_yes _ _ _ _ _ _ _ (HR1.out.below HB2.out) HR2.out hm5).mono ?_); rintro e w3 ⟨rfl, hb3⟩; have HB3 := hid (bthen HB2.out hb3); clear hb3) | (go_at_call 8; (with_reducible refine (HT.out _).mono ?_); rintro e w4 ⟨rfl, hb4⟩; have HB4 := hid (bthen HB3.out hb4); clear hb4; have HFA := hid (Fair_any a m c (mixF s n m) n (2 * n - 1) w4 (HR1.out.below HB4.out) hm6 hk1 hk2); rw [HF.out] at HFA) | (go_at_call 14; (with_reducible refine HFA.out.mono ?_); rintro e w5 ⟨rfl, hb5⟩; have HB5 := hid hb5; clear hb5))
        go_ret
        exact ⟨rfl, bthen (bthen HB1.out HB4.out) HB5.out⟩
      · obtain rfl : m = 0 := by omega
        have hkm := HKM.out
        have HKM2 := hid hkm
        clear hkm
        go_wp2_with (first | (go_at_call 16; (with_reducible refine (HMX.out _).mono ?_); rintro e w1 h1; obtain ⟨a, c, rfl, hr1, hb1⟩ := mix_yes h1 g1 g4 HKM2.out; have HR1 := hid hr1; have HB1 := hid hb1; clear h1 hr1 hb1) | (go_at_call 17; (with_reducible refine (HMR.out _).mono ?_); rintro e w2 h2; obtain ⟨a', c', rfl, hr2, hb2⟩ := mix_yes h2 g1 g4 HKM2.out; have HR2 := hid hr2; have HB2 := hid hb2; clear h2 hr2 hb2) | (go_at_call 10; (with_reducible refine (Same_yes _ _ _ _ _ _ _ (HR1.out.below HB2.out) HR2.out hm5).mono ?_); rintro e w3 ⟨rfl, hb3⟩; have HB3 := hid (bthen HB2.out hb3); clear hb3) | (go_at_call 8; (with_reducible refine (HT.out _).mono ?_); rintro e w4 ⟨rfl, hb4⟩; have HB4 := hid (bthen HB3.out hb4); clear hb4; have HFA := hid (Fair_any a 0 c (mixF s n 0) n (2 * n - 1) w4 (HR1.out.below HB4.out) hm6 hk1 hk2); rw [HF.out] at HFA) | (go_at_call 14; (with_reducible refine HFA.out.mono ?_); rintro e w5 ⟨rfl, hb5⟩; have HB5 := hid hb5; clear hb5))
        go_ret
        exact ⟨rfl, bthen (bthen HB1.out HB4.out) HB5.out⟩

end Go.Proofs.Ytbenbbgcdcafaaa
