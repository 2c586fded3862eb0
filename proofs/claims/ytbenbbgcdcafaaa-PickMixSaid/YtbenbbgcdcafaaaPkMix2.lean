/-
  pick.Mix, walked.
-/
import Derived.Test.YtbenbbgcdcafaaaPkMix
namespace Go.Proofs.Ytbenbbgcdcafaaa
open Go.RowKit
set_option linter.unusedVariables false

/-- The number of the next round. -/
def mstep (x : Int) : Int := IntKind.u64.wrap (IntKind.u64.wrap (6364136223846793005 * x) + 1442695040888963407)
theorem u64_lt (n : Int) : 0 ≤ IntKind.u64.wrap n ∧ IntKind.u64.wrap n ≤ 18446744073709551615 := by
  unfold IntKind.wrap
  simp [IntKind.bits, IntKind.signed]
  omega
def mit (s : Int) : Nat → Int
  | 0 => s
  | r + 1 => mstep (mit s r)
theorem mit_lt {s : Int} (h0 : 0 ≤ s) (h1 : s ≤ 18446744073709551615) : ∀ r, 0 ≤ mit s r ∧ mit s r ≤ 18446744073709551615
  | 0 => ⟨h0, h1⟩
  | r + 1 => u64_lt _
def mixAt (s : Int) (n j : Nat) : Pk := mixedF (mit s (j / n + 1)) n (j % n)
def mixF (s : Int) (n m : Nat) : List Pk := (List.range m).map (mixAt s n)
theorem mixF_len (s : Int) (n m : Nat) : (mixF s n m).length = m := by simp [mixF]
theorem mixF_succ (s : Int) (n m : Nat) : mixF s n (m + 1) = mixF s n m ++ [mixAt s n m] := by simp [mixF, List.range_succ]
theorem mixF_at (s : Int) (n m j : Nat) (h : j < m) : (mixF s n m)[j]? = some (mixAt s n j) := by simp [mixF, h]
theorem cnt_zero {n k : Nat} (hn : 1 ≤ n) (h : k % n = 0) : (k + n - 1) / n = k / n ∧ (k + 1 + n - 1) / n = k / n + 1 := by
  have e := Nat.div_add_mod k n
  rw [h, Nat.add_zero] at e
  generalize k / n = q at *
  subst e
  refine ⟨?_, ?_⟩
  · rw [show n * q + n - 1 = n * q + (n - 1) by omega, Nat.mul_add_div (by omega), Nat.div_eq_of_lt (by omega), Nat.add_zero]
  · rw [show n * q + 1 + n - 1 = n * (q + 1) + 0 by rw [Nat.mul_add]; omega, Nat.mul_add_div (by omega), Nat.zero_div, Nat.add_zero]
theorem cnt_more {n k : Nat} (hn : 1 ≤ n) (h : k % n ≠ 0) : (k + n - 1) / n = k / n + 1 ∧ (k + 1 + n - 1) / n = k / n + 1 := by
  have e := Nat.div_add_mod k n
  have hlt := Nat.mod_lt k (show n > 0 by omega)
  generalize k / n = q at *
  generalize k % n = r at *
  subst e
  refine ⟨?_, ?_⟩
  · rw [show n * q + r + n - 1 = n * (q + 1) + (r - 1) by rw [Nat.mul_add]; omega, Nat.mul_add_div (by omega), Nat.div_eq_of_lt (by omega), Nat.add_zero]
  · rw [show n * q + r + 1 + n - 1 = n * (q + 1) + r by rw [Nat.mul_add]; omega, Nat.mul_add_div (by omega), Nat.div_eq_of_lt (by omega), Nat.add_zero]

/-- What Mix hands back. -/
def MixRet (s n many : Int) (w : World) (e : Ending) (w' : World) : Prop :=
  ((1 ≤ n ∧ n ≤ 4 ∧ ∃ v, e = .returned v ∧ OwnPk w.heap.size v (mixF s n.toNat many.toNat) w') ∨
    ((n < 1 ∨ 4 < n) ∧ e = .returned (.slice none 0 0))) ∧ Below w.heap.size w w'
/-- The state of the loop: the first k are mixed. -/
structure MixAt (w : World) (s : Int) (n m g k : Nat) (x : Int) (wr : World) : Prop where
  own : OwnPk w.heap.size (.slice (some ⟨g, 0, none⟩) m m) (mixF s n k ++ List.replicate (m - k) Pk.zero) wr
  below : Below w.heap.size w wr
  num : x = mit s ((k + n - 1) / n)
theorem MixAt.put {w wr w' : World} {s : Int} {n m g k : Nat} {x : Int} (h : MixAt w s n m g k x wr) (hk : k < m) (hg : w.heap.size ≤ g) (hn : 1 ≤ n) (hb : Below wr.heap.size wr w') {y : Int} (hy : y = mit s (k / n + 1)) {p : Pk} (hp : p = mixedF y n (k % n)) :
    MixAt w s n m g (k + 1) y (((w'.setCell ⟨g, k * 3, none⟩ (.int .i64 p.t)).setCell ⟨g, k * 3 + 1, none⟩ (.bool p.a)).setCell ⟨g, k * 3 + 2, none⟩ (.int .i64 p.d)) := by
  have hl := mixF_len s n k
  have h1 := (h.own.below hb).put k hk p
  have e : (mixF s n k ++ List.replicate (m - k) Pk.zero).set k p = mixF s n (k + 1) ++ List.replicate (m - (k + 1)) Pk.zero := by
    rw [List.set_append, if_neg (by omega), hl, Nat.sub_self, show m - k = (m - (k + 1)) + 1 by omega, List.replicate_succ, List.set_cons_zero, mixF_succ, hp, hy]
    simp [mixAt]
  rw [e] at h1
  refine ⟨h1, (((bthen h.below hb).setCell hg _).setCell hg _).setCell hg _, ?_⟩
  rw [hy]
  by_cases h0 : k % n = 0
  · rw [(cnt_zero hn h0).2]
  · rw [(cnt_more hn h0).2]

set_option maxRecDepth 100000 in
set_option maxHeartbeats 4000000 in
theorem Mix_any (s n many : Int) (w : World) (hm : many ≤ 1000) (hb : -9223372036854775808 ≤ many) (s0 : 0 ≤ s) (s1 : s ≤ 18446744073709551615) :
    Calls Try.prog 16 #[.int .u64 s, .int .i64 n, .int .i64 many] w (MixRet s n many w) := by
  cases hn : inB n 1 4
  · have HN : Hid (n < 1 ∨ 4 < n) := hid (by
      rcases Int.lt_or_le n 1 with h | h
      · exact .inl h
      · rcases Int.lt_or_le 4 n with h' | h'
        · exact .inr h'
        · rw [inB_yes h h'] at hn; cases hn)
    have HBL := hid (blank_no n many w hm hb hn)
    go_enter Try.func16, Try.ntmps16
    go_wp2_with (go_at_call 21; (with_reducible refine HBL.out.mono ?_); rintro e w1 ⟨rfl, hb1⟩; have HB := hid hb1; clear hb1)
    go_loopw [17] (fun i wr => i = .int .i64 0 ∧ wr = w1) (fun i _ => 0)
    case atStart => exact ⟨rfl, rfl⟩
    case round =>
      obtain ⟨rfl, rfl⟩ := hrel
      go_wp2
      go_ret
      exact ⟨.inr ⟨HN.out, rfl⟩, HB.out⟩
  · obtain ⟨n1, n4⟩ := inB_iff.1 hn
    obtain ⟨n, rfl⟩ : ∃ n' : Nat, n = (n' : Int) := ⟨n.toNat, by omega⟩
    have hm2 : many.toNat ≤ 1000 := by omega
    have HBL := hid (blank_yes n many w hm hb hn _ rfl)
    generalize hmm : many.toNat = m at hm2 HBL
    have HM := hid hmm
    clear hmm
    have hn0 : ¬ n = 0 := by omega
    have hnn : 1 ≤ n := by omega
    have hn4' : n ≤ 4 := by omega
    have HML := hid (mit_lt s0 s1)
    go_enter Try.func16, Try.ntmps16
    go_wp2_with (go_at_call 21; (with_reducible refine HBL.out.mono ?_); rintro e w1 ⟨g, rfl, ho, hb1⟩; have HO := hid ho; have HB := hid hb1; clear ho hb1)
    go_loopw [8, 17] (fun x i wr => ∃ (k : Nat) (z : Int), k ≤ m ∧ i = .int .i64 k ∧ x = .int .u64 z ∧ MixAt w s n m g k z wr) (fun _ i _ => m - (intOf i).toNat)
    case atStart => exact ⟨0, s, Nat.zero_le _, rfl, rfl, by simpa [mixF] using HO.out, HB.out, by rw [show (0 + n - 1) / n = 0 from Nat.div_eq_of_lt (by omega)]; rfl⟩
    case round =>
      obtain ⟨k, z, hk, rfl, rfl, hs⟩ := hrel
      have HS := hid hs
      have hz := HML.out ((k + n - 1) / n)
      rw [← hs.num] at hz
      obtain ⟨z0, z1⟩ := hz
      clear hs
      have hgB := (HO.out.old rfl).1
      by_cases hlt : k < m
      · have hr := Nat.mod_lt k (show n > 0 by omega)
        have hmod : (k : Int) % (n : Int) = ((k % n : Nat) : Int) := rfl
        generalize hrr : k % n = r at hr hmod
        have HR := hid hrr
        clear hrr
        by_cases h0 : r = 0
        · obtain rfl : r = 0 := h0
          have HC := hid (cnt_zero (k := k) hnn HR.out)
          go_upto_region 9 with fail
          generalize hy : IntKind.u64.wrap (IntKind.u64.wrap (6364136223846793005 * z) + 1442695040888963407) = y
          have hyb : 0 ≤ y ∧ y ≤ 18446744073709551615 := by rw [← hy]; exact u64_lt _
          obtain ⟨y0, y1⟩ := hyb
          have HYE : Hid (y = mit s (k / n + 1)) := hid (by
            have h1 := HS.out.num
            rw [HC.out.1] at h1
            show y = mstep (mit s (k / n))
            rw [← h1, ← hy]
            rfl)
          clear hy
          have hl := mixF_len s n k
          obtain ⟨q0, q1, q2⟩ := HS.out.own.at (k := k) (p := Pk.zero) (by rw [List.getElem?_append_right (by omega), hl, Nat.sub_self]; simp [List.getElem?_replicate]; omega)
          have fz := HS.out.own.frozen
          have hgs := (HS.out.own.old rfl).2
          clear hl
          generalize hpp : mixedF y n 0 = pp
          obtain ⟨pt, pa, pd⟩ := pp
          have HMX : Hid (Calls Try.prog 22 #[.int .u64 y, .int .i64 n, .int .i64 0] wr fun e w' => e = .returned (.agg #[.int .i64 pt, .bool pa, .int .i64 pd]) ∧ Below wr.heap.size wr w') := hid (by
            have h := mixed_any y n 0 wr y0 y1 hnn hn4' hr
            rw [hpp] at h
            exact h)
          have HPP := hid hpp
          clear hpp
          go_wp2_with (go_at_call 22; (with_reducible refine HMX.out.mono ?_); rintro e w5 ⟨rfl, hb5⟩; obtain ⟨hc5, hf5, hz5⟩ := bcell hb5 rfl; have HB5 := hid hb5; clear hb5)
          go_roundw
          case rel => exact ⟨k + 1, y, by omega, by go_num, by trivial, HS.out.put hlt hgB hnn HB5.out HYE.out (p := ⟨pt, pa, pd⟩) (by rw [HR.out, HPP.out])⟩
          case measure => simp [intOf]; omega
        · have HC := hid (cnt_more (k := k) hnn (by rw [HR.out]; exact h0))
          go_upto_region 9 with fail
          have HYE : Hid (z = mit s (k / n + 1)) := hid (by
            have h1 := HS.out.num
            rw [HC.out.1] at h1
            exact h1)
          have hl := mixF_len s n k
          obtain ⟨q0, q1, q2⟩ := HS.out.own.at (k := k) (p := Pk.zero) (by rw [List.getElem?_append_right (by omega), hl, Nat.sub_self]; simp [List.getElem?_replicate]; omega)
          have fz := HS.out.own.frozen
          have hgs := (HS.out.own.old rfl).2
          clear hl
          generalize hpp : mixedF z n r = pp
          obtain ⟨pt, pa, pd⟩ := pp
          have HMX : Hid (Calls Try.prog 22 #[.int .u64 z, .int .i64 n, .int .i64 r] wr fun e w' => e = .returned (.agg #[.int .i64 pt, .bool pa, .int .i64 pd]) ∧ Below wr.heap.size wr w') := hid (by
            have h := mixed_any z n r wr z0 z1 hnn hn4' hr
            rw [hpp] at h
            exact h)
          have HPP := hid hpp
          clear hpp
          go_wp2_with (go_at_call 22; (with_reducible refine HMX.out.mono ?_); rintro e w5 ⟨rfl, hb5⟩; obtain ⟨hc5, hf5, hz5⟩ := bcell hb5 rfl; have HB5 := hid hb5; clear hb5)
          go_roundw
          case rel => exact ⟨k + 1, z, by omega, by go_num, by trivial, HS.out.put hlt hgB hnn HB5.out HYE.out (p := ⟨pt, pa, pd⟩) (by rw [HR.out, HPP.out])⟩
          case measure => simp [intOf]; omega
      · obtain rfl : k = m := by omega
        go_wp2
        go_ret
        exact ⟨.inl ⟨n1, n4, _, rfl, by have := HS.out.own; rw [Nat.sub_self] at this; rw [HM.out]; simpa using this⟩, HS.out.below⟩

end Go.Proofs.Ytbenbbgcdcafaaa
