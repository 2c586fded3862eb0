/-
  The document's Mix; mixed picks are fair.
-/
import Derived.Test.YtbenbbgcdcafaaaPkMix2
namespace Go.Proofs.Ytbenbbgcdcafaaa
open Go.RowKit
set_option linter.unusedVariables false

set_option maxHeartbeats 1000000 in
theorem many_any (K : Int) (m : Nat) (w : World) (hm : K ≤ 1000) (hb : -9223372036854775808 ≤ K) (hk : K.toNat = m) : Calls Try.prog 23 #[.int .i64 K] w fun e w' => e = .returned (.int .i64 (m : Int)) ∧ w = w' := by
  by_cases h0 : 0 < K
  · obtain rfl : K = (m : Int) := by omega
    clear hk
    go_enter Try.func23, Try.ntmps23
    go_wp2
    go_ret
    exact ⟨rfl, by trivial⟩
  · obtain rfl : m = 0 := by omega
    clear hk
    go_enter Try.func23, Try.ntmps23
    go_wp2
    go_ret
    exact ⟨rfl, by trivial⟩

theorem turnF_cover (x : Int) (n t : Nat) (h1 : 1 ≤ n) (h4 : n ≤ 4) (ht : t < n) : ∃ i, i < n ∧ turnF x n i = (t : Int) := by
  have m0 : 0 ≤ x / 8589934592 % (n : Int) := Int.emod_nonneg _ (by omega)
  have m1 : x / 8589934592 % (n : Int) < n := Int.emod_lt_of_pos _ (by omega)
  unfold turnF
  generalize x / 8589934592 % (n : Int) = st at *
  obtain ⟨st, rfl⟩ : ∃ q : Nat, st = (q : Int) := ⟨st.toNat, by omega⟩
  have hn : n = 1 ∨ n = 2 ∨ n = 3 ∨ n = 4 := by omega
  split
  · refine ⟨(st + n - t) % n, Nat.mod_lt _ (by omega), ?_⟩
    rcases hn with rfl | rfl | rfl | rfl <;> omega
  · refine ⟨(t + n - st) % n, Nat.mod_lt _ (by omega), ?_⟩
    rcases hn with rfl | rfl | rfl | rfl <;> omega
theorem mix_fair (s : Int) (n m : Nat) (h1 : 1 ≤ n) (h4 : n ≤ 4) : FairP (whoOf (mixF s n m)) n (2 * n - 1) := by
  refine ⟨by omega, by omega, by omega, fun i hi t ht => ?_⟩
  have hl : (whoOf (mixF s n m)).length = m := by unfold whoOf; rw [List.length_map, mixF_len]
  rw [hl] at hi
  obtain ⟨q, hq1, hq2⟩ : ∃ q : Nat, i ≤ n * q ∧ n * q ≤ i + n - 1 := by
    refine ⟨(i + n - 1) / n, ?_, Nat.mul_div_le _ _⟩
    have := Nat.lt_mul_div_succ (i + n - 1) (show 0 < n by omega)
    rw [Nat.mul_add] at this
    omega
  obtain ⟨r, hr, he⟩ := turnF_cover (mit s (q + 1)) n t h1 h4 (by omega)
  refine ⟨n * q + r, by omega, by omega, ?_⟩
  unfold whoOf
  rw [List.getElem?_map, mixF_at s n m _ (by omega)]
  unfold mixAt
  rw [Nat.mul_add_div (by omega), Nat.div_eq_of_lt hr, Nat.add_zero, Nat.mul_add_mod, Nat.mod_eq_of_lt hr]
  show some (turnF (mit s (q + 1)) n r) = _
  rw [he]

/-- The document's: ahead of a round. -/
structure RMixAt (w : World) (s : Int) (n k : Nat) (v : Value) (wr : World) : Prop where
  own : OwnPk w.heap.size v (mixF s n k) wr
  below : Below w.heap.size w wr
theorem RMixAt.step {w wr w' : World} {s : Int} {n k : Nat} {v v' : Value} (h : RMixAt w s n k v wr) {p : Pk} (hp : p = mixAt s n k) (h' : OwnPk w.heap.size v' (mixF s n k ++ [p]) w') (hw : Wrote (fun b => v.ownBlock = some b) wr w') : RMixAt w s n (k + 1) v' w' := by
  subst hp
  refine ⟨by rw [mixF_succ]; exact h', h.below.trans (hw.below h.below.size fun j hj e => ?_)⟩
  have := (h.own.old e).1
  omega

theorem add_n_mod (a n : Int) : (a + n) % n = a % n := by simp
def lenV : Value → Nat
  | .slice _ n _ => n
  | _ => 0
theorem no_of_in {n : Int} (hn : inB n 1 4 = false) : n < 1 ∨ 4 < n := by
  rcases Int.lt_or_le n 1 with h | h
  · exact .inl h
  · rcases Int.lt_or_le 4 n with h' | h'
    · exact .inr h'
    · rw [inB_yes h h'] at hn; cases hn

set_option maxRecDepth 100000 in
set_option maxHeartbeats 4000000 in
theorem RMix_any (s n many : Int) (w : World) (hm : many ≤ 1000) (hb : -9223372036854775808 ≤ many) (s0 : 0 ≤ s) (s1 : s ≤ 18446744073709551615) :
    Calls Try.prog 17 #[.int .u64 s, .int .i64 n, .int .i64 many] w (MixRet s n many w) := by
  obtain ⟨i0, hi, hz0, hz1, hz2⟩ := info_parts infoPk
  cases hn : inB n 1 4
  · have HN := hid (no_of_in hn)
    rcases no_of_in hn with h | h
    all_goals
      go_enter Try.func17, Try.ntmps17
      go_wp2
      go_ret
      exact ⟨.inr ⟨HN.out, rfl⟩, Below.refl _ _⟩
  · obtain ⟨n1, n4⟩ := inB_iff.1 hn
    obtain ⟨n, rfl⟩ : ∃ n' : Nat, n = (n' : Int) := ⟨n.toNat, by omega⟩
    obtain ⟨m, hmm, hm2⟩ : ∃ m, many.toNat = m ∧ m ≤ 1000 := ⟨_, rfl, by omega⟩
    have HMY := hid (fun W => many_any many m W hm hb hmm)
    have HM := hid hmm
    clear hmm
    have hn0 : ¬ n = 0 := by omega
    have hnn : 1 ≤ n := by omega
    have hn4' : n ≤ 4 := by omega
    have HML := hid (mit_lt s0 s1)
    go_enter Try.func17, Try.ntmps17
    go_wp2_with fail
    go_loopw [7, 8] (fun v x wr => ∃ (R k : Nat) (z : Int) (a : Option Addr) (c : Nat), k ≤ m ∧ (k = n * R ∨ k = m) ∧ v = .slice a k c ∧ x = .int .u64 z ∧ z = mit s R ∧ RMixAt w s n k (.slice a k c) wr) (fun v _ _ => m - lenV v)
    case atStart => exact ⟨0, 0, s, none, 0, Nat.zero_le _, .inl (by simp), rfl, rfl, rfl, by simpa [mixF] using OwnPk.nil _ _, Below.refl _ _⟩
    case round =>
      obtain ⟨R, k, z, a, c, hk, hkR, rfl, rfl, hz, hs⟩ := hrel
      have HS := hid hs
      have HZ := hid hz
      clear hs
      by_cases hlt : k < m
      · have HKR : Hid (k = n * R) := hid (by omega)
        clear hkR hz
        go_upto_region 7 with (go_at_call 23; (with_reducible refine (HMY.out _).mono ?_); rintro e w' ⟨rfl, rfl⟩)
        generalize hy : IntKind.u64.wrap (IntKind.u64.wrap (z * 6364136223846793005) + 1442695040888963407) = y
        have hyb : 0 ≤ y ∧ y ≤ 18446744073709551615 := by rw [← hy]; exact u64_lt _
        obtain ⟨y0, y1⟩ := hyb
        have HYE : Hid (y = mit s (R + 1)) := hid (by
          show y = mstep (mit s R)
          rw [← HZ.out, ← hy]
          unfold mstep
          rw [Int.mul_comm z])
        clear hy
        have q1 := and1 (y / 1152921504606846976) (by omega) (by omega)
        have m0 : 0 ≤ y / 8589934592 % (n : Int) := Int.emod_nonneg _ (by omega)
        have m1 : y / 8589934592 % (n : Int) < n := Int.emod_lt_of_pos _ (by omega)
        go_upto_region 8 with fail
        have HMA : Hid (∀ i, i < n → mixAt s n (k + i) = mixedF y n i) := hid (fun i hi => by
          unfold mixAt
          rw [HKR.out, Nat.mul_add_div (by omega), Nat.div_eq_of_lt hi, Nat.add_zero, Nat.mul_add_mod, Nat.mod_eq_of_lt hi, ← HYE.out])
        by_cases hd : y / 1152921504606846976 % 2 = 1
        · have HTF : Hid (∀ i, turnF y n i = (y / 8589934592 % n - i) % n) := hid (fun i => by unfold turnF; rw [if_pos hd, add_n_mod])
          have hd2 : (y / 1152921504606846976 % 2 == 1) = true := by simpa using hd
          clear hd
          generalize y / 8589934592 % (n : Int) = st at m0 m1 HTF ⊢
          go_wp2_with fail
          go_loopw [7, 10] (fun v ti wr => ∃ (i k' : Nat) (a : Option Addr) (c : Nat), i ≤ n ∧ k' = k + i ∧ k' ≤ m ∧ ti = .int .i64 i ∧ v = .slice a k' c ∧ RMixAt w s n k' (.slice a k' c) wr) (fun _ ti _ => n - (intOf ti).toNat)
          case atStart => exact ⟨0, k, a, c, Nat.zero_le _, rfl, hk, rfl, rfl, HS.out⟩
          case round =>
            obtain ⟨i, k', a', c', hin, hk', hkm, rfl, rfl, hs'⟩ := hrel
            have HI := hid hs'
            clear hs'
            subst hk'
            by_cases hlt2 : i < n ∧ k + i < m
            · obtain ⟨hi1, hi2⟩ := hlt2
              have hc : i = 0 ∨ i = 1 ∨ i = 2 ∨ i = 3 := by omega
              rcases hc with rfl | rfl | rfl | rfl
              · have HE : Hid (#[Value.int .i64 (st % (n : Int)), .bool (y / 68719476736 % 16 == 0), .int .i64 (y / 256 % 16)] = (mixAt s n (k + 0)).cs) := hid (by
                  rw [HMA.out 0 (by omega)]
                  show _ = (#[Value.int .i64 (turnF y n 0), .bool (decide (y / 2 ^ 36 % 16 = 0)), .int .i64 (y / 2 ^ 8 % 16)] : Array Value)
                  rw [show (2 : Int) ^ 36 = 68719476736 from rfl, show (2 : Int) ^ 8 = 256 from rfl, HTF.out 0]
                  first | rfl | (rw [show ((0 : Nat) : Int) = 0 from rfl, Int.sub_zero]; rfl) | (rw [show ((0 : Nat) : Int) = 0 from rfl, Int.add_zero]; rfl))
                have qa := and15 (y / 68719476736) (by omega) (by omega)
                have qd := and15 (y / 256) (by omega) (by omega)
                have h6 : (mixF s n (k + 0)).length ≤ 1000000 := by rw [mixF_len]; omega
                go_wp2_with (first | (go_at_call 23; (with_reducible refine (HMY.out _).mono ?_); rintro e w' ⟨rfl, rfl⟩) | (at_builtin; refine wpList_append_pk1 rfl (.tmp 61) (.tmp 80) 24 rfl Try.underlying24 hi hz0 rfl hz1 hz2 rfl HI.out.own (mixAt s n (k + 0)) _ HE.out rfl rfl h6 HI.out.below.size ?_; intro v' w' hown' hat hg'; have HA := hid hown'; have HG := hid hg'; clear hown' hat hg'))
                have HN2 := hid (HI.out.step rfl HA.out HG.out)
                obtain ⟨a2, c2, rfl, -, -, -, -⟩ := HA.out.shape
                rw [List.length_append, mixF_len, List.length_cons, List.length_nil, Nat.zero_add] at HN2 ⊢
                go_roundw
                case rel => exact ⟨0 + 1, k + 0 + 1, a2, c2, by omega, by omega, by omega, by go_num, rfl, HN2.out⟩
                case measure => simp [intOf]; omega
              · have HE : Hid (#[Value.int .i64 ((st - 1) % (n : Int)), .bool (y / 1099511627776 % 16 == 0), .int .i64 (y / 4096 % 16)] = (mixAt s n (k + 1)).cs) := hid (by
                  rw [HMA.out 1 (by omega)]
                  show _ = (#[Value.int .i64 (turnF y n 1), .bool (decide (y / 2 ^ 40 % 16 = 0)), .int .i64 (y / 2 ^ 12 % 16)] : Array Value)
                  rw [show (2 : Int) ^ 40 = 1099511627776 from rfl, show (2 : Int) ^ 12 = 4096 from rfl, HTF.out 1]
                  first | rfl | (rw [show ((0 : Nat) : Int) = 0 from rfl, Int.sub_zero]; rfl) | (rw [show ((0 : Nat) : Int) = 0 from rfl, Int.add_zero]; rfl))
                have qa := and15 (y / 1099511627776) (by omega) (by omega)
                have qd := and15 (y / 4096) (by omega) (by omega)
                have h6 : (mixF s n (k + 1)).length ≤ 1000000 := by rw [mixF_len]; omega
                go_wp2_with (first | (go_at_call 23; (with_reducible refine (HMY.out _).mono ?_); rintro e w' ⟨rfl, rfl⟩) | (at_builtin; refine wpList_append_pk1 rfl (.tmp 61) (.tmp 80) 24 rfl Try.underlying24 hi hz0 rfl hz1 hz2 rfl HI.out.own (mixAt s n (k + 1)) _ HE.out rfl rfl h6 HI.out.below.size ?_; intro v' w' hown' hat hg'; have HA := hid hown'; have HG := hid hg'; clear hown' hat hg'))
                have HN2 := hid (HI.out.step rfl HA.out HG.out)
                obtain ⟨a2, c2, rfl, -, -, -, -⟩ := HA.out.shape
                rw [List.length_append, mixF_len, List.length_cons, List.length_nil, Nat.zero_add] at HN2 ⊢
                go_roundw
                case rel => exact ⟨1 + 1, k + 1 + 1, a2, c2, by omega, by omega, by omega, by go_num, rfl, HN2.out⟩
                case measure => simp [intOf]; omega
              · have HE : Hid (#[Value.int .i64 ((st - 2) % (n : Int)), .bool (y / 17592186044416 % 16 == 0), .int .i64 (y / 65536 % 16)] = (mixAt s n (k + 2)).cs) := hid (by
                  rw [HMA.out 2 (by omega)]
                  show _ = (#[Value.int .i64 (turnF y n 2), .bool (decide (y / 2 ^ 44 % 16 = 0)), .int .i64 (y / 2 ^ 16 % 16)] : Array Value)
                  rw [show (2 : Int) ^ 44 = 17592186044416 from rfl, show (2 : Int) ^ 16 = 65536 from rfl, HTF.out 2]
                  first | rfl | (rw [show ((0 : Nat) : Int) = 0 from rfl, Int.sub_zero]; rfl) | (rw [show ((0 : Nat) : Int) = 0 from rfl, Int.add_zero]; rfl))
                have qa := and15 (y / 17592186044416) (by omega) (by omega)
                have qd := and15 (y / 65536) (by omega) (by omega)
                have h6 : (mixF s n (k + 2)).length ≤ 1000000 := by rw [mixF_len]; omega
                go_wp2_with (first | (go_at_call 23; (with_reducible refine (HMY.out _).mono ?_); rintro e w' ⟨rfl, rfl⟩) | (at_builtin; refine wpList_append_pk1 rfl (.tmp 61) (.tmp 80) 24 rfl Try.underlying24 hi hz0 rfl hz1 hz2 rfl HI.out.own (mixAt s n (k + 2)) _ HE.out rfl rfl h6 HI.out.below.size ?_; intro v' w' hown' hat hg'; have HA := hid hown'; have HG := hid hg'; clear hown' hat hg'))
                have HN2 := hid (HI.out.step rfl HA.out HG.out)
                obtain ⟨a2, c2, rfl, -, -, -, -⟩ := HA.out.shape
                rw [List.length_append, mixF_len, List.length_cons, List.length_nil, Nat.zero_add] at HN2 ⊢
                go_roundw
                case rel => exact ⟨2 + 1, k + 2 + 1, a2, c2, by omega, by omega, by omega, by go_num, rfl, HN2.out⟩
                case measure => simp [intOf]; omega
              · have HE : Hid (#[Value.int .i64 ((st - 3) % (n : Int)), .bool (y / 281474976710656 % 16 == 0), .int .i64 (y / 1048576 % 16)] = (mixAt s n (k + 3)).cs) := hid (by
                  rw [HMA.out 3 (by omega)]
                  show _ = (#[Value.int .i64 (turnF y n 3), .bool (decide (y / 2 ^ 48 % 16 = 0)), .int .i64 (y / 2 ^ 20 % 16)] : Array Value)
                  rw [show (2 : Int) ^ 48 = 281474976710656 from rfl, show (2 : Int) ^ 20 = 1048576 from rfl, HTF.out 3]
                  first | rfl | (rw [show ((0 : Nat) : Int) = 0 from rfl, Int.sub_zero]; rfl) | (rw [show ((0 : Nat) : Int) = 0 from rfl, Int.add_zero]; rfl))
                have qa := and15 (y / 281474976710656) (by omega) (by omega)
                have qd := and15 (y / 1048576) (by omega) (by omega)
                have h6 : (mixF s n (k + 3)).length ≤ 1000000 := by rw [mixF_len]; omega
                go_wp2_with (first | (go_at_call 23; (with_reducible refine (HMY.out _).mono ?_); rintro e w' ⟨rfl, rfl⟩) | (at_builtin; refine wpList_append_pk1 rfl (.tmp 61) (.tmp 80) 24 rfl Try.underlying24 hi hz0 rfl hz1 hz2 rfl HI.out.own (mixAt s n (k + 3)) _ HE.out rfl rfl h6 HI.out.below.size ?_; intro v' w' hown' hat hg'; have HA := hid hown'; have HG := hid hg'; clear hown' hat hg'))
                have HN2 := hid (HI.out.step rfl HA.out HG.out)
                obtain ⟨a2, c2, rfl, -, -, -, -⟩ := HA.out.shape
                rw [List.length_append, mixF_len, List.length_cons, List.length_nil, Nat.zero_add] at HN2 ⊢
                go_roundw
                case rel => exact ⟨3 + 1, k + 3 + 1, a2, c2, by omega, by omega, by omega, by go_num, rfl, HN2.out⟩
                case measure => simp [intOf]; omega
            · by_cases hi1 : i < n
              · have hkm2 : m ≤ k + i := by omega
                go_wp2_with (go_at_call 23; (with_reducible refine (HMY.out _).mono ?_); rintro e w' ⟨rfl, rfl⟩)
                go_roundw
                case rel => exact ⟨R + 1, k + i, y, a', c', hkm, .inr (by omega), rfl, rfl, HYE.out, HI.out⟩
                case measure => simp [lenV]; omega
              · obtain rfl : i = n := by omega
                go_wp2_with (go_at_call 23; (with_reducible refine (HMY.out _).mono ?_); rintro e w' ⟨rfl, rfl⟩)
                go_roundw
                case rel => exact ⟨R + 1, k + i, y, a', c', hkm, .inl (by rw [HKR.out, Nat.mul_add]; omega), rfl, rfl, HYE.out, HI.out⟩
                case measure => simp [lenV]; omega
        · have HTF : Hid (∀ i, turnF y n i = (y / 8589934592 % n + i) % n) := hid (fun i => by unfold turnF; rw [if_neg hd])
          have hd2 : (y / 1152921504606846976 % 2 == 1) = false := by simpa using hd
          clear hd
          generalize y / 8589934592 % (n : Int) = st at m0 m1 HTF ⊢
          go_wp2_with fail
          go_loopw [7, 10] (fun v ti wr => ∃ (i k' : Nat) (a : Option Addr) (c : Nat), i ≤ n ∧ k' = k + i ∧ k' ≤ m ∧ ti = .int .i64 i ∧ v = .slice a k' c ∧ RMixAt w s n k' (.slice a k' c) wr) (fun _ ti _ => n - (intOf ti).toNat)
          case atStart => exact ⟨0, k, a, c, Nat.zero_le _, rfl, hk, rfl, rfl, HS.out⟩
          case round =>
            obtain ⟨i, k', a', c', hin, hk', hkm, rfl, rfl, hs'⟩ := hrel
            have HI := hid hs'
            clear hs'
            subst hk'
            by_cases hlt2 : i < n ∧ k + i < m
            · obtain ⟨hi1, hi2⟩ := hlt2
              have hc : i = 0 ∨ i = 1 ∨ i = 2 ∨ i = 3 := by omega
              rcases hc with rfl | rfl | rfl | rfl
              · have HE : Hid (#[Value.int .i64 (st % (n : Int)), .bool (y / 68719476736 % 16 == 0), .int .i64 (y / 256 % 16)] = (mixAt s n (k + 0)).cs) := hid (by
                  rw [HMA.out 0 (by omega)]
                  show _ = (#[Value.int .i64 (turnF y n 0), .bool (decide (y / 2 ^ 36 % 16 = 0)), .int .i64 (y / 2 ^ 8 % 16)] : Array Value)
                  rw [show (2 : Int) ^ 36 = 68719476736 from rfl, show (2 : Int) ^ 8 = 256 from rfl, HTF.out 0]
                  first | rfl | (rw [show ((0 : Nat) : Int) = 0 from rfl, Int.sub_zero]; rfl) | (rw [show ((0 : Nat) : Int) = 0 from rfl, Int.add_zero]; rfl))
                have qa := and15 (y / 68719476736) (by omega) (by omega)
                have qd := and15 (y / 256) (by omega) (by omega)
                have h6 : (mixF s n (k + 0)).length ≤ 1000000 := by rw [mixF_len]; omega
                go_wp2_with (first | (go_at_call 23; (with_reducible refine (HMY.out _).mono ?_); rintro e w' ⟨rfl, rfl⟩) | (at_builtin; refine wpList_append_pk1 rfl (.tmp 61) (.tmp 80) 24 rfl Try.underlying24 hi hz0 rfl hz1 hz2 rfl HI.out.own (mixAt s n (k + 0)) _ HE.out rfl rfl h6 HI.out.below.size ?_; intro v' w' hown' hat hg'; have HA := hid hown'; have HG := hid hg'; clear hown' hat hg'))
                have HN2 := hid (HI.out.step rfl HA.out HG.out)
                obtain ⟨a2, c2, rfl, -, -, -, -⟩ := HA.out.shape
                rw [List.length_append, mixF_len, List.length_cons, List.length_nil, Nat.zero_add] at HN2 ⊢
                go_roundw
                case rel => exact ⟨0 + 1, k + 0 + 1, a2, c2, by omega, by omega, by omega, by go_num, rfl, HN2.out⟩
                case measure => simp [intOf]; omega
              · have HE : Hid (#[Value.int .i64 ((st + 1) % (n : Int)), .bool (y / 1099511627776 % 16 == 0), .int .i64 (y / 4096 % 16)] = (mixAt s n (k + 1)).cs) := hid (by
                  rw [HMA.out 1 (by omega)]
                  show _ = (#[Value.int .i64 (turnF y n 1), .bool (decide (y / 2 ^ 40 % 16 = 0)), .int .i64 (y / 2 ^ 12 % 16)] : Array Value)
                  rw [show (2 : Int) ^ 40 = 1099511627776 from rfl, show (2 : Int) ^ 12 = 4096 from rfl, HTF.out 1]
                  first | rfl | (rw [show ((0 : Nat) : Int) = 0 from rfl, Int.sub_zero]; rfl) | (rw [show ((0 : Nat) : Int) = 0 from rfl, Int.add_zero]; rfl))
                have qa := and15 (y / 1099511627776) (by omega) (by omega)
                have qd := and15 (y / 4096) (by omega) (by omega)
                have h6 : (mixF s n (k + 1)).length ≤ 1000000 := by rw [mixF_len]; omega
                go_wp2_with (first | (go_at_call 23; (with_reducible refine (HMY.out _).mono ?_); rintro e w' ⟨rfl, rfl⟩) | (at_builtin; refine wpList_append_pk1 rfl (.tmp 61) (.tmp 80) 24 rfl Try.underlying24 hi hz0 rfl hz1 hz2 rfl HI.out.own (mixAt s n (k + 1)) _ HE.out rfl rfl h6 HI.out.below.size ?_; intro v' w' hown' hat hg'; have HA := hid hown'; have HG := hid hg'; clear hown' hat hg'))
                have HN2 := hid (HI.out.step rfl HA.out HG.out)
                obtain ⟨a2, c2, rfl, -, -, -, -⟩ := HA.out.shape
                rw [List.length_append, mixF_len, List.length_cons, List.length_nil, Nat.zero_add] at HN2 ⊢
                go_roundw
                case rel => exact ⟨1 + 1, k + 1 + 1, a2, c2, by omega, by omega, by omega, by go_num, rfl, HN2.out⟩
                case measure => simp [intOf]; omega
              · have HE : Hid (#[Value.int .i64 ((st + 2) % (n : Int)), .bool (y / 17592186044416 % 16 == 0), .int .i64 (y / 65536 % 16)] = (mixAt s n (k + 2)).cs) := hid (by
                  rw [HMA.out 2 (by omega)]
                  show _ = (#[Value.int .i64 (turnF y n 2), .bool (decide (y / 2 ^ 44 % 16 = 0)), .int .i64 (y / 2 ^ 16 % 16)] : Array Value)
                  rw [show (2 : Int) ^ 44 = 17592186044416 from rfl, show (2 : Int) ^ 16 = 65536 from rfl, HTF.out 2]
                  first | rfl | (rw [show ((0 : Nat) : Int) = 0 from rfl, Int.sub_zero]; rfl) | (rw [show ((0 : Nat) : Int) = 0 from rfl, Int.add_zero]; rfl))
                have qa := and15 (y / 17592186044416) (by omega) (by omega)
                have qd := and15 (y / 65536) (by omega) (by omega)
                have h6 : (mixF s n (k + 2)).length ≤ 1000000 := by rw [mixF_len]; omega
                go_wp2_with (first | (go_at_call 23; (with_reducible refine (HMY.out _).mono ?_); rintro e w' ⟨rfl, rfl⟩) | (at_builtin; refine wpList_append_pk1 rfl (.tmp 61) (.tmp 80) 24 rfl Try.underlying24 hi hz0 rfl hz1 hz2 rfl HI.out.own (mixAt s n (k + 2)) _ HE.out rfl rfl h6 HI.out.below.size ?_; intro v' w' hown' hat hg'; have HA := hid hown'; have HG := hid hg'; clear hown' hat hg'))
                have HN2 := hid (HI.out.step rfl HA.out HG.out)
                obtain ⟨a2, c2, rfl, -, -, -, -⟩ := HA.out.shape
                rw [List.length_append, mixF_len, List.length_cons, List.length_nil, Nat.zero_add] at HN2 ⊢
                go_roundw
                case rel => exact ⟨2 + 1, k + 2 + 1, a2, c2, by omega, by omega, by omega, by go_num, rfl, HN2.out⟩
                case measure => simp [intOf]; omega
              · have HE : Hid (#[Value.int .i64 ((st + 3) % (n : Int)), .bool (y / 281474976710656 % 16 == 0), .int .i64 (y / 1048576 % 16)] = (mixAt s n (k + 3)).cs) := hid (by
                  rw [HMA.out 3 (by omega)]
                  show _ = (#[Value.int .i64 (turnF y n 3), .bool (decide (y / 2 ^ 48 % 16 = 0)), .int .i64 (y / 2 ^ 20 % 16)] : Array Value)
                  rw [show (2 : Int) ^ 48 = 281474976710656 from rfl, show (2 : Int) ^ 20 = 1048576 from rfl, HTF.out 3]
                  first | rfl | (rw [show ((0 : Nat) : Int) = 0 from rfl, Int.sub_zero]; rfl) | (rw [show ((0 : Nat) : Int) = 0 from rfl, Int.add_zero]; rfl))
                have qa := and15 (y / 281474976710656) (by omega) (by omega)
                have qd := and15 (y / 1048576) (by omega) (by omega)
                have h6 : (mixF s n (k + 3)).length ≤ 1000000 := by rw [mixF_len]; omega
                go_wp2_with (first | (go_at_call 23; (with_reducible refine (HMY.out _).mono ?_); rintro e w' ⟨rfl, rfl⟩) | (at_builtin; refine wpList_append_pk1 rfl (.tmp 61) (.tmp 80) 24 rfl Try.underlying24 hi hz0 rfl hz1 hz2 rfl HI.out.own (mixAt s n (k + 3)) _ HE.out rfl rfl h6 HI.out.below.size ?_; intro v' w' hown' hat hg'; have HA := hid hown'; have HG := hid hg'; clear hown' hat hg'))
                have HN2 := hid (HI.out.step rfl HA.out HG.out)
                obtain ⟨a2, c2, rfl, -, -, -, -⟩ := HA.out.shape
                rw [List.length_append, mixF_len, List.length_cons, List.length_nil, Nat.zero_add] at HN2 ⊢
                go_roundw
                case rel => exact ⟨3 + 1, k + 3 + 1, a2, c2, by omega, by omega, by omega, by go_num, rfl, HN2.out⟩
                case measure => simp [intOf]; omega
            · by_cases hi1 : i < n
              · have hkm2 : m ≤ k + i := by omega
                go_wp2_with (go_at_call 23; (with_reducible refine (HMY.out _).mono ?_); rintro e w' ⟨rfl, rfl⟩)
                go_roundw
                case rel => exact ⟨R + 1, k + i, y, a', c', hkm, .inr (by omega), rfl, rfl, HYE.out, HI.out⟩
                case measure => simp [lenV]; omega
              · obtain rfl : i = n := by omega
                go_wp2_with (go_at_call 23; (with_reducible refine (HMY.out _).mono ?_); rintro e w' ⟨rfl, rfl⟩)
                go_roundw
                case rel => exact ⟨R + 1, k + i, y, a', c', hkm, .inl (by rw [HKR.out, Nat.mul_add]; omega), rfl, rfl, HYE.out, HI.out⟩
                case measure => simp [lenV]; omega
      · obtain rfl : k = m := by omega
        go_wp2_with (go_at_call 23; (with_reducible refine (HMY.out _).mono ?_); rintro e w' ⟨rfl, rfl⟩)
        go_ret
        exact ⟨.inl ⟨n1, n4, _, rfl, by rw [HM.out]; exact HS.out.own⟩, HS.out.below⟩

end Go.Proofs.Ytbenbbgcdcafaaa
