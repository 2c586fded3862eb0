/-
  PickRound, walked.
-/
import Derived.Test.YtbenbbgcdcafaaaPkTold
namespace Go.Proofs.Ytbenbbgcdcafaaa
open Go.RowKit
set_option linter.unusedVariables false

theorem u64_pos (n : Int) : 0 ≤ IntKind.u64.wrap n := by
  unfold IntKind.wrap
  simp [IntKind.bits, IntKind.signed]
  try omega

set_option maxRecDepth 100000 in
set_option maxHeartbeats 4000000 in
theorem round_law (a0 a1 : Int) (a2 : Bool) (w : World) :
    Calls Try.prog 7 #[.int .i64 a0, .int .i64 a1, .bool a2] w fun e w' => e = .returned (.bool true) ∧ Below w.heap.size w w' := by
  have p0 := u64_pos a0
  have p1 := u64_pos a1
  have HT := hid told7
  cases a2
  all_goals go_enter Try.func7, Try.ntmps7
  all_goals go_upto_region 4 with fail
  · generalize 1 + IntKind.u64.wrap a0 % 4 = N
    have hK1 : -1 ≤ IntKind.u64.wrap a1 % 302 - 1 := by omega
    have hK2 : IntKind.u64.wrap a1 % 302 - 1 ≤ 300 := by omega
    clear p0 p1
    generalize IntKind.u64.wrap a1 % 302 - 1 = K at hK1 hK2 ⊢
    cases hin : inB N 1 4
    · have hno : N < 1 ∨ 4 < N := by
        rcases Int.lt_or_le N 1 with h | h
        · exact .inl h
        · rcases Int.lt_or_le 4 N with h' | h'
          · exact .inr h'
          · rw [inB_yes h h'] at hin; cases hin
      have HR := hid (Round_no N K w hno (by omega) (by omega))
      rcases hno with hno | hno
      all_goals
        go_wp2_with (first | (go_at_call 18; (with_reducible refine HR.out.mono ?_); rintro e w1 ⟨rfl, hb1⟩; have HB1 := hid hb1; clear hb1) | (go_at_call 8; (with_reducible refine (HT.out _).mono ?_); rintro e w2 ⟨rfl, hb2⟩; have HB2 := hid hb2; clear hb2))
        go_ret
        exact ⟨rfl, bthen HB1.out HB2.out⟩
    · obtain ⟨n1, n4⟩ := inB_iff.1 hin
      obtain ⟨n, rfl⟩ : ∃ n' : Nat, N = (n' : Int) := ⟨N.toNat, by omega⟩
      have hk : ∃ m : Nat, m ≤ 300 ∧ K.toNat = m ∧ (K = (m : Int) ∨ (K = -1 ∧ m = 0)) := ⟨K.toNat, by omega, rfl, by omega⟩
      obtain ⟨m, hm, hkm, hcase⟩ := hk
      have HR := hid (Round_yes n K w (by omega) (by omega) (by omega) (by omega) m hkm)
      have HF := hid (fairB_yes (round_fair n m (by omega) (by omega)))
      have hn0 : ¬ n = 0 := by omega
      have hsm := sameB_self
      clear hkm
      have hcase2 : K = (m : Int) ∨ (K = -1 ∧ m ≤ 0) := by omega
      clear hcase
      rcases hcase2 with rfl | ⟨rfl, hm0⟩
      · go_upto_region 9 with (go_at_call 18; (with_reducible refine HR.out.mono ?_); rintro e w1 ⟨g, rfl, ho, hb1⟩; have HO := hid ho; have HB1 := hid hb1; clear ho hb1)
        go_wp2_with fail
        go_loopw [9] (fun i wr => ∃ k : Nat, k ≤ m ∧ i = .int .i64 k ∧ Below w1.heap.size w1 wr) (fun i _ => m - (intOf i).toNat)
        case atStart => exact ⟨0, Nat.zero_le _, rfl, Below.refl _ _⟩
        case round =>
          obtain ⟨k, hk, rfl, hs⟩ := hrel
          have HS := hid hs
          clear hs
          by_cases hlt : k < m
          · obtain ⟨x0, x1, x2⟩ := (HO.out.at (roundF_at n m k hlt)).keep (HS.out.block g (HO.out.old rfl).2)
            dsimp only at x0 x1 x2
            rw [Int.natCast_emod] at x0
            have hgd : Try.prog.eqGuardType Try.prog.depth 32 = false := by kernel_rfl
            have heq := neq_pick
            have hmod : (k : Int).tmod (n : Int) = (k : Int) % (n : Int) := Int.tmod_eq_emod_of_nonneg (by omega)
            go_wp2
            go_quiet (fail)
            go_wp2
            go_roundw
            case rel => exact ⟨k + 1, by omega, by go_num, bdrewN HS.out⟩
            case measure => simp [intOf]; omega
          · have HFA := hid (fun W (hb : Below w1.heap.size w1 W) => Fair_any (some ⟨g, 0, none⟩) m m (roundF n m) n n W (HO.out.rowS.below hb) (by omega) (by omega) (by omega))
            rw [HF.out] at HFA
            go_wp2_with (first | (go_at_call 8; (with_reducible refine (HT.out _).mono ?_); rintro e w2 ⟨rfl, hb2⟩; have HB2 := hid (bthen HS.out hb2); clear hb2) | (go_at_call 14; (with_reducible refine (HFA.out _ HB2.out).mono ?_); rintro e w3 ⟨rfl, hb3⟩; have HB3 := hid hb3; clear hb3))
            go_ret
            exact ⟨rfl, bthen HB1.out (bthen HB2.out HB3.out)⟩
      · go_upto_region 9 with (go_at_call 18; (with_reducible refine HR.out.mono ?_); rintro e w1 ⟨g, rfl, ho, hb1⟩; have HO := hid ho; have HB1 := hid hb1; clear ho hb1)
        go_wp2_with fail
        go_loopw [9] (fun i wr => ∃ k : Nat, k ≤ m ∧ i = .int .i64 k ∧ Below w1.heap.size w1 wr) (fun i _ => m - (intOf i).toNat)
        case atStart => exact ⟨0, Nat.zero_le _, rfl, Below.refl _ _⟩
        case round =>
          obtain ⟨k, hk, rfl, hs⟩ := hrel
          have HS := hid hs
          clear hs
          by_cases hlt : k < m
          · exfalso; omega
          · have HFA := hid (fun W (hb : Below w1.heap.size w1 W) => Fair_any (some ⟨g, 0, none⟩) m m (roundF n m) n n W (HO.out.rowS.below hb) (by omega) (by omega) (by omega))
            rw [HF.out] at HFA
            go_wp2_with (first | (go_at_call 8; (with_reducible refine (HT.out _).mono ?_); rintro e w2 ⟨rfl, hb2⟩; have HB2 := hid (bthen HS.out hb2); clear hb2) | (go_at_call 14; (with_reducible refine (HFA.out _ HB2.out).mono ?_); rintro e w3 ⟨rfl, hb3⟩; have HB3 := hid hb3; clear hb3))
            go_ret
            exact ⟨rfl, bthen HB1.out (bthen HB2.out HB3.out)⟩
  · generalize a0 = N at p0 ⊢
    have hK1 : -1 ≤ IntKind.u64.wrap a1 % 302 - 1 := by omega
    have hK2 : IntKind.u64.wrap a1 % 302 - 1 ≤ 300 := by omega
    clear p0 p1
    generalize IntKind.u64.wrap a1 % 302 - 1 = K at hK1 hK2 ⊢
    cases hin : inB N 1 4
    · have hno : N < 1 ∨ 4 < N := by
        rcases Int.lt_or_le N 1 with h | h
        · exact .inl h
        · rcases Int.lt_or_le 4 N with h' | h'
          · exact .inr h'
          · rw [inB_yes h h'] at hin; cases hin
      have HR := hid (Round_no N K w hno (by omega) (by omega))
      rcases hno with hno | hno
      all_goals
        go_wp2_with (first | (go_at_call 18; (with_reducible refine HR.out.mono ?_); rintro e w1 ⟨rfl, hb1⟩; have HB1 := hid hb1; clear hb1) | (go_at_call 8; (with_reducible refine (HT.out _).mono ?_); rintro e w2 ⟨rfl, hb2⟩; have HB2 := hid hb2; clear hb2))
        go_ret
        exact ⟨rfl, bthen HB1.out HB2.out⟩
    · obtain ⟨n1, n4⟩ := inB_iff.1 hin
      obtain ⟨n, rfl⟩ : ∃ n' : Nat, N = (n' : Int) := ⟨N.toNat, by omega⟩
      have hk : ∃ m : Nat, m ≤ 300 ∧ K.toNat = m ∧ (K = (m : Int) ∨ (K = -1 ∧ m = 0)) := ⟨K.toNat, by omega, rfl, by omega⟩
      obtain ⟨m, hm, hkm, hcase⟩ := hk
      have HR := hid (Round_yes n K w (by omega) (by omega) (by omega) (by omega) m hkm)
      have HF := hid (fairB_yes (round_fair n m (by omega) (by omega)))
      have hn0 : ¬ n = 0 := by omega
      have hsm := sameB_self
      clear hkm
      have hcase2 : K = (m : Int) ∨ (K = -1 ∧ m ≤ 0) := by omega
      clear hcase
      rcases hcase2 with rfl | ⟨rfl, hm0⟩
      · go_upto_region 9 with (go_at_call 18; (with_reducible refine HR.out.mono ?_); rintro e w1 ⟨g, rfl, ho, hb1⟩; have HO := hid ho; have HB1 := hid hb1; clear ho hb1)
        go_wp2_with fail
        go_loopw [9] (fun i wr => ∃ k : Nat, k ≤ m ∧ i = .int .i64 k ∧ Below w1.heap.size w1 wr) (fun i _ => m - (intOf i).toNat)
        case atStart => exact ⟨0, Nat.zero_le _, rfl, Below.refl _ _⟩
        case round =>
          obtain ⟨k, hk, rfl, hs⟩ := hrel
          have HS := hid hs
          clear hs
          by_cases hlt : k < m
          · obtain ⟨x0, x1, x2⟩ := (HO.out.at (roundF_at n m k hlt)).keep (HS.out.block g (HO.out.old rfl).2)
            dsimp only at x0 x1 x2
            rw [Int.natCast_emod] at x0
            have hgd : Try.prog.eqGuardType Try.prog.depth 32 = false := by kernel_rfl
            have heq := neq_pick
            have hmod : (k : Int).tmod (n : Int) = (k : Int) % (n : Int) := Int.tmod_eq_emod_of_nonneg (by omega)
            go_wp2
            go_quiet (fail)
            go_wp2
            go_roundw
            case rel => exact ⟨k + 1, by omega, by go_num, bdrewN HS.out⟩
            case measure => simp [intOf]; omega
          · have HFA := hid (fun W (hb : Below w1.heap.size w1 W) => Fair_any (some ⟨g, 0, none⟩) m m (roundF n m) n n W (HO.out.rowS.below hb) (by omega) (by omega) (by omega))
            rw [HF.out] at HFA
            go_wp2_with (first | (go_at_call 8; (with_reducible refine (HT.out _).mono ?_); rintro e w2 ⟨rfl, hb2⟩; have HB2 := hid (bthen HS.out hb2); clear hb2) | (go_at_call 14; (with_reducible refine (HFA.out _ HB2.out).mono ?_); rintro e w3 ⟨rfl, hb3⟩; have HB3 := hid hb3; clear hb3))
            go_ret
            exact ⟨rfl, bthen HB1.out (bthen HB2.out HB3.out)⟩
      · go_upto_region 9 with (go_at_call 18; (with_reducible refine HR.out.mono ?_); rintro e w1 ⟨g, rfl, ho, hb1⟩; have HO := hid ho; have HB1 := hid hb1; clear ho hb1)
        go_wp2_with fail
        go_loopw [9] (fun i wr => ∃ k : Nat, k ≤ m ∧ i = .int .i64 k ∧ Below w1.heap.size w1 wr) (fun i _ => m - (intOf i).toNat)
        case atStart => exact ⟨0, Nat.zero_le _, rfl, Below.refl _ _⟩
        case round =>
          obtain ⟨k, hk, rfl, hs⟩ := hrel
          have HS := hid hs
          clear hs
          by_cases hlt : k < m
          · exfalso; omega
          · have HFA := hid (fun W (hb : Below w1.heap.size w1 W) => Fair_any (some ⟨g, 0, none⟩) m m (roundF n m) n n W (HO.out.rowS.below hb) (by omega) (by omega) (by omega))
            rw [HF.out] at HFA
            go_wp2_with (first | (go_at_call 8; (with_reducible refine (HT.out _).mono ?_); rintro e w2 ⟨rfl, hb2⟩; have HB2 := hid (bthen HS.out hb2); clear hb2) | (go_at_call 14; (with_reducible refine (HFA.out _ HB2.out).mono ?_); rintro e w3 ⟨rfl, hb3⟩; have HB3 := hid hb3; clear hb3))
            go_ret
            exact ⟨rfl, bthen HB1.out (bthen HB2.out HB3.out)⟩

end Go.Proofs.Ytbenbbgcdcafaaa
