/-
  pick.Round; the document's example.
-/
import Derived.Test.YtbenbbgcdcafaaaPkFair
namespace Go.Proofs.Ytbenbbgcdcafaaa
open Go.RowKit
set_option linter.unusedVariables false

/-- m picks of n threads in turn. -/
def roundF (n m : Nat) : List Pk := (List.range m).map fun i => ⟨((i % n : Nat) : Int), false, 0⟩
theorem roundF_len (n m : Nat) : (roundF n m).length = m := by simp [roundF]
theorem roundF_at (n m i : Nat) (h : i < m) : (roundF n m)[i]? = some ⟨((i % n : Nat) : Int), false, 0⟩ := by simp [roundF, h]
/-- Each n of them have everybody. -/
theorem round_fair (n m : Nat) (h1 : 1 ≤ n) (h4 : n ≤ 4) : FairP (whoOf (roundF n m)) n n := by
  refine ⟨by omega, by omega, by omega, fun i hi t ht => ?_⟩
  have hl : (whoOf (roundF n m)).length = m := by unfold whoOf; rw [List.length_map, roundF_len]
  rw [hl] at hi
  have e := Nat.div_add_mod i n
  have hlt := Nat.mod_lt i (show n > 0 by omega)
  have key : ∀ j, i ≤ j → j < i + n → j % n = t → ∃ j : Nat, i ≤ j ∧ (j : Int) < i + n ∧ (whoOf (roundF n m))[j]? = some (t : Int) := by
    intro j a b c
    refine ⟨j, a, by omega, ?_⟩
    unfold whoOf
    rw [List.getElem?_map, roundF_at n m j (by omega), c]
    rfl
  by_cases hr : i % n ≤ t
  · refine key (i + (t - i % n)) (by omega) (by omega) ?_
    have : i + (t - i % n) = t + n * (i / n) := by omega
    rw [this, Nat.add_mul_mod_self_left, Nat.mod_eq_of_lt (by omega)]
  · refine key (i + (t + n - i % n)) (by omega) (by omega) ?_
    have : i + (t + n - i % n) = t + n * (i / n + 1) := by rw [Nat.mul_add]; omega
    rw [this, Nat.add_mul_mod_self_left, Nat.mod_eq_of_lt (by omega)]

/-- The picks that are made: a slice of the call's own, or nil. -/
def BlankRet (n many : Int) (w : World) (e : Ending) (w' : World) : Prop :=
  ((inB n 1 4 = true ∧ ∃ g, e = .returned (.slice (some ⟨g, 0, none⟩) many.toNat many.toNat) ∧ OwnPk w.heap.size (.slice (some ⟨g, 0, none⟩) many.toNat many.toNat) (List.replicate many.toNat Pk.zero) w') ∨
    (inB n 1 4 = false ∧ e = .returned (.slice none 0 0))) ∧ Below w.heap.size w w'

set_option maxHeartbeats 2000000 in
theorem blank_any (n many : Int) (w : World) (hm : many ≤ 1000) (hb : -9223372036854775808 ≤ many) :
    Calls Try.prog 21 #[.int .i64 n, .int .i64 many] w (BlankRet n many w) := by
  obtain ⟨i0, hi, hz0, hz1, hz2⟩ := info_parts infoPk
  cases hn : inB n 1 4
  · go_enter Try.func21, Try.ntmps21
    go_wp2_with (go_at_call 19; (with_reducible refine (within_any _ _ _ _).mono ?_); rintro e w' ⟨rfl, rfl⟩)
    go_ret
    exact ⟨.inr ⟨hn, rfl⟩, Below.refl _ _⟩
  · have E2 : Hid (i0.bytes * many.toNat ≤ 281474976710656) := hid (by rw [hz2]; omega)
    have E3 : Hid (many.toNat ≤ maxLen) := hid (by unfold maxLen; omega)
    by_cases h0 : 0 ≤ many
    · have E1 : Hid (many = ((many.toNat : Nat) : Int)) := hid (by omega)
      go_enter Try.func21, Try.ntmps21
      go_wp2_with (first | (go_at_call 19; (with_reducible refine (within_any _ _ _ _).mono ?_); rintro e w' ⟨rfl, rfl⟩) | (at_make; refine wpList_make_full _ rfl _ _ 24 rfl w.heap.size 32 i0 (.agg #[.int .i64 0, .bool false, .int .i64 0]) 3 Try.underlying24 hi hz0 hz1 .i64 .i64 _ _ many.toNat rfl rfl E1.out E1.out E2.out E3.out (Nat.le_refl _) ?_; intro w1 hown hg1; have HO := hid (OwnPk.made hown); clear hown))
      go_ret
      exact ⟨.inl ⟨hn, _, rfl, HO.out⟩, (Below.refl _ _).grown hg1 (Nat.le_refl _) (by simp)⟩
    · have E1 : Hid ((0 : Int) = ((0 : Nat) : Int)) := hid rfl
      have e0 : many.toNat = 0 := by omega
      rw [e0] at E2 E3
      have HE0 := hid e0
      clear e0
      go_enter Try.func21, Try.ntmps21
      go_wp2_with (first | (go_at_call 19; (with_reducible refine (within_any _ _ _ _).mono ?_); rintro e w' ⟨rfl, rfl⟩) | (at_make; refine wpList_make_full _ rfl _ _ 24 rfl w.heap.size 32 i0 (.agg #[.int .i64 0, .bool false, .int .i64 0]) 3 Try.underlying24 hi hz0 hz1 .i64 .i64 _ _ 0 rfl rfl E1.out E1.out E2.out E3.out (Nat.le_refl _) ?_; intro w1 hown hg1; have HO := hid (OwnPk.made hown); clear hown))
      go_ret
      exact ⟨.inl ⟨hn, w.heap.size, by rw [HE0.out]; rfl, by rw [HE0.out]; exact HO.out⟩, (Below.refl _ _).grown hg1 (Nat.le_refl _) (by simp)⟩

theorem blank_yes (n many : Int) (w : World) (hm : many ≤ 1000) (hb : -9223372036854775808 ≤ many) (hn : inB n 1 4 = true) (m : Nat) (hmm : many.toNat = m) :
    Calls Try.prog 21 #[.int .i64 n, .int .i64 many] w fun e w' => ∃ g, e = .returned (.slice (some ⟨g, 0, none⟩) m m) ∧ OwnPk w.heap.size (.slice (some ⟨g, 0, none⟩) m m) (List.replicate m Pk.zero) w' ∧ Below w.heap.size w w' := by
  subst hmm
  refine (blank_any n many w hm hb).mono fun e w' h => ?_
  obtain ⟨⟨_, g, h1, h2⟩ | ⟨h0, _⟩, h3⟩ := h
  · exact ⟨g, h1, h2, h3⟩
  · rw [hn] at h0; cases h0
theorem blank_no (n many : Int) (w : World) (hm : many ≤ 1000) (hb : -9223372036854775808 ≤ many) (hn : inB n 1 4 = false) :
    Calls Try.prog 21 #[.int .i64 n, .int .i64 many] w fun e w' => e = .returned (.slice none 0 0) ∧ Below w.heap.size w w' := by
  refine (blank_any n many w hm hb).mono fun e w' h => ?_
  obtain ⟨⟨h0, _⟩ | ⟨_, h1⟩, h3⟩ := h
  · rw [hn] at h0; cases h0
  · exact ⟨h1, h3⟩

/-- What Round hands back. -/
def RoundRet (n many : Int) (w : World) (e : Ending) (w' : World) : Prop :=
  ((1 ≤ n ∧ n ≤ 4 ∧ ∃ g, e = .returned (.slice (some ⟨g, 0, none⟩) many.toNat many.toNat) ∧ OwnPk w.heap.size (.slice (some ⟨g, 0, none⟩) many.toNat many.toNat) (roundF n.toNat many.toNat) w') ∨
    ((n < 1 ∨ 4 < n) ∧ e = .returned (.slice none 0 0))) ∧ Below w.heap.size w w'

/-- The state of the loop: the first k have their threads. -/
structure RoundAt (w : World) (n m g k : Nat) (wr : World) : Prop where
  own : OwnPk w.heap.size (.slice (some ⟨g, 0, none⟩) m m) (roundF n k ++ List.replicate (m - k) Pk.zero) wr
  below : Below w.heap.size w wr
theorem RoundAt.step {w wr : World} {n m g k : Nat} (h : RoundAt w n m g k wr) (hk : k < m) (hg : w.heap.size ≤ g) {x : Int} (hx : x = ((k % n : Nat) : Int)) : RoundAt w n m g (k + 1) (wr.setCell ⟨g, k * 3, none⟩ (.int .i64 x)) := by
  subst hx
  refine ⟨?_, h.below.setCell hg _⟩
  have hl := roundF_len n k
  have e : (roundF n k ++ List.replicate (m - k) Pk.zero).set k ⟨((k % n : Nat) : Int), false, 0⟩ = roundF n (k + 1) ++ List.replicate (m - (k + 1)) Pk.zero := by
    rw [List.set_append, if_neg (by omega), hl, Nat.sub_self, show m - k = (m - (k + 1)) + 1 by omega, List.replicate_succ, List.set_cons_zero]
    simp [roundF, List.range_succ]
  rw [← e]
  exact h.own.putT hk (p := Pk.zero) (by rw [List.getElem?_append_right (by omega), hl, Nat.sub_self]; simp [List.getElem?_replicate]; omega) _

set_option maxHeartbeats 4000000 in
theorem Round_any (n many : Int) (w : World) (hm : many ≤ 1000) (hb : -9223372036854775808 ≤ many) :
    Calls Try.prog 18 #[.int .i64 n, .int .i64 many] w (RoundRet n many w) := by
  cases hn : inB n 1 4
  · have HN : Hid (n < 1 ∨ 4 < n) := hid (by
      rcases Int.lt_or_le n 1 with h | h
      · exact .inl h
      · rcases Int.lt_or_le 4 n with h' | h'
        · exact .inr h'
        · rw [inB_yes h h'] at hn; cases hn)
    have HBL := hid (blank_no n many w hm hb hn)
    go_enter Try.func18, Try.ntmps18
    go_wp2_with (go_at_call 21; (with_reducible refine HBL.out.mono ?_); rintro e w1 ⟨rfl, hb1⟩; have HB := hid hb1; clear hb1)
    go_loopw [12] (fun i wr => i = .int .i64 0 ∧ wr = w1) (fun i _ => 0)
    case atStart => exact ⟨rfl, rfl⟩
    case round =>
      obtain ⟨rfl, rfl⟩ := hrel
      go_wp2
      go_ret
      exact ⟨.inr ⟨HN.out, rfl⟩, HB.out⟩
  · obtain ⟨n1, n4⟩ := inB_iff.1 hn
    obtain ⟨n, rfl⟩ : ∃ n' : Nat, n = (n' : Int) := ⟨n.toNat, by omega⟩
    have hm2 : many.toNat ≤ 1000 := by omega
    have HBL := hid (blank_yes n many w hm hb hn _ rfl)
    generalize hmm : many.toNat = m at hm2 HBL
    have HM := hid hmm
    clear hmm
    go_enter Try.func18, Try.ntmps18
    go_wp2_with (go_at_call 21; (with_reducible refine HBL.out.mono ?_); rintro e w1 ⟨g, rfl, ho, hb1⟩; have HO := hid ho; have HB := hid hb1; clear ho hb1)
    go_loopw [12] (fun i wr => ∃ k : Nat, k ≤ m ∧ i = .int .i64 k ∧ RoundAt w n m g k wr) (fun i _ => m - (intOf i).toNat)
    case atStart => exact ⟨0, Nat.zero_le _, rfl, by simpa [roundF] using HO.out, HB.out⟩
    case round =>
      obtain ⟨k, hk, rfl, hs⟩ := hrel
      have HS := hid hs
      clear hs
      have hgB := (HO.out.old rfl).1
      by_cases hlt : k < m
      · have hl := roundF_len n k
        obtain ⟨z0, z1, z2⟩ := HS.out.own.at (k := k) (p := Pk.zero) (by rw [List.getElem?_append_right (by omega), hl, Nat.sub_self]; simp [List.getElem?_replicate]; omega)
        have fz := HS.out.own.frozen
        clear hl
        go_wp2
        go_roundw
        case rel => exact ⟨k + 1, by omega, by go_num, HS.out.step hlt hgB (by first | rfl | omega)⟩
        case measure => simp [intOf]; omega
      · obtain rfl : k = m := by omega
        go_wp2
        go_ret
        exact ⟨.inl ⟨n1, n4, g, by rw [HM.out]; rfl, by have := HS.out.own; rw [Nat.sub_self] at this; rw [HM.out]; simpa using this⟩, HS.out.below⟩

end Go.Proofs.Ytbenbbgcdcafaaa
