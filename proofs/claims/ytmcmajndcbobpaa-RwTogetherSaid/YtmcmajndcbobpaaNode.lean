/-
  THE CONTRACTS OF package place: Node, Hash.
-/
import Derived.Test.YtmcmajndcbobpaaPlc
import Derived.Laws.BitsAllLaws
import Derived.Laws.BitsLemmas
namespace Go.Proofs.Ytmcmajndcbobpaa
open Go.RowKit

set_option maxHeartbeats 1000000 in
theorem node_in (m : PM) (a b p : Int) (w : World) (h : m.Ok) (h0 : 0 ≤ a) (h1 : a < m.t) (h2 : 0 ≤ b) (h3 : b < m.l) :
    Calls Try.prog 73 #[m.v, .int .i64 a, .int .i64 b, .int .i64 p] w fun e w' => e = .returned (.int .i64 (m.at_ 5 (a * m.l + b) p)) ∧ Below w.heap.size w w' := by
  obtain ⟨g1, g2, g3, g4⟩ := node_bounds h h0 h1 h2 h3
  have hA := inB_yes (n := a) (a := 0) (b := m.t - 1) h0 (by omega)
  have hB := inB_yes (n := b) (a := 0) (b := m.l - 1) h2 (by omega)
  obtain ⟨_, _, l1, l2, t1, t2, _⟩ := h
  obtain ⟨s, l, t, c, d⟩ := m
  simp only at hA hB g1 g2 g3 g4 l1 l2 t1 t2
  show Calls _ _ #[.agg #[.int .i64 s, .int .i64 l, .int .i64 t, .int .i64 c, .int .i64 d], _, _, _] _ _
  go_enter Try.func73, Try.ntmps73
  go_wp2_with (first | (go_at_call 72; refine (within_any _ _ _ _).mono ?_; rintro e w' ⟨rfl, rfl⟩) | (go_at_call 52; refine (spot_any ⟨s, l, t, c, d⟩ 5 (by decide) _ rfl _ _ _).mono ?_; rintro e w1 ⟨rfl, hb1⟩))
  go_ret
  exact ⟨rfl, bthen (bnew (bid w) _) hb1⟩

set_option maxHeartbeats 1000000 in
theorem node_out (m : PM) (a b p : Int) (w : World) (h : m.Ok) (ho : inB a 0 (m.t - 1) = false ∨ inB a 0 (m.t - 1) = true ∧ inB b 0 (m.l - 1) = false) :
    Calls Try.prog 73 #[m.v, .int .i64 a, .int .i64 b, .int .i64 p] w fun e w' => e = .returned (.int .i64 (-1)) ∧ Below w.heap.size w w' := by
  obtain ⟨_, _, l1, l2, t1, t2, _⟩ := h
  obtain ⟨s, l, t, c, d⟩ := m
  simp only at ho l1 l2 t1 t2
  show Calls _ _ #[.agg #[.int .i64 s, .int .i64 l, .int .i64 t, .int .i64 c, .int .i64 d], _, _, _] _ _
  rcases ho with ho | ⟨ho, hp⟩
  all_goals
    go_enter Try.func73, Try.ntmps73
    go_wp2_with (go_at_call 72; refine (within_any _ _ _ _).mono ?_; rintro e w' ⟨rfl, rfl⟩)
    go_ret
    exact ⟨rfl, bnew (bid w) _⟩

set_option maxHeartbeats 1000000 in
theorem node_no (m : PM) (a b p : Int) (w : World) (h : ¬ m.Ok) :
    Calls Try.prog 73 #[m.v, .int .i64 a, .int .i64 b, .int .i64 p] w fun e w' => e = .returned (.int .i64 (-1)) ∧ Below w.heap.size w w' := by
  have H := hid fun k i p => m.at_out (k := k) (i := i) (p := p) (.inl h)
  clear h
  obtain ⟨s, l, t, c, d⟩ := m
  show Calls _ _ #[.agg #[.int .i64 s, .int .i64 l, .int .i64 t, .int .i64 c, .int .i64 d], _, _, _] _ _
  cases hA : inB a 0 (wrap64 (t - 1))
  case' true => cases hB : inB b 0 (wrap64 (l - 1))
  case true.true =>
    go_enter Try.func73, Try.ntmps73
    go_wp2_with (first | (go_at_call 72; refine (within_any _ _ _ _).mono ?_; rintro e w' ⟨rfl, rfl⟩) | (go_at_call 52; refine (spot_any ⟨s, l, t, c, d⟩ 5 (by decide) _ rfl _ _ _).mono ?_; rintro e w1 ⟨rfl, hb1⟩))
    go_ret
    exact ⟨by rw [← H.out 5]; rfl, bthen (bnew (bid w) _) hb1⟩
  all_goals
    go_enter Try.func73, Try.ntmps73
    go_wp2_with (go_at_call 72; refine (within_any _ _ _ _).mono ?_; rintro e w' ⟨rfl, rfl⟩)
    go_ret
    exact ⟨rfl, bnew (bid w) _⟩

theorem Node_any (m : PM) (a b p : Int) (w : World) :
    Calls Try.prog 73 #[m.v, .int .i64 a, .int .i64 b, .int .i64 p] w fun e w' => e = .returned (.int .i64 (m.node a b p)) ∧ Below w.heap.size w w' := by
  by_cases h : m.Ok
  · by_cases ha : 0 ≤ a ∧ a < m.t
    · by_cases hb : 0 ≤ b ∧ b < m.l
      · have hbn := node_bounds h ha.1 ha.2 hb.1 hb.2
        have e : m.node a b p = m.at_ 5 (a * m.l + b) p := by
          unfold PM.node PM.at_
          have c1 : (m.Ok ∧ 0 ≤ a ∧ a < m.t ∧ 0 ≤ b ∧ b < m.l ∧ 0 ≤ p ∧ p < 2) ↔ (m.Ok ∧ 0 ≤ a * m.l + b ∧ a * m.l + b < m.many 5 ∧ 0 ≤ p ∧ p < PM.each 5) :=
            ⟨fun ⟨_, _, _, _, _, q1, q2⟩ => ⟨h, hbn.2.1, hbn.2.2.1, q1, q2⟩, fun ⟨_, _, _, q1, q2⟩ => ⟨h, ha.1, ha.2, hb.1, hb.2, q1, q2⟩⟩
          simp only [c1]
          rfl
        rw [e]
        exact node_in m a b p w h ha.1 ha.2 hb.1 hb.2
      · have e : m.node a b p = -1 := by unfold PM.node; rw [if_neg]; rintro ⟨_, _, _, q1, q2, _⟩; exact hb ⟨q1, q2⟩
        rw [e]
        exact node_out m a b p w h (.inr ⟨inB_yes ha.1 (by omega), inB_no (by omega)⟩)
    · have e : m.node a b p = -1 := by unfold PM.node; rw [if_neg]; rintro ⟨_, q1, q2, _⟩; exact ha ⟨q1, q2⟩
      rw [e]
      exact node_out m a b p w h (.inl (inB_no (by omega)))
  · have e : m.node a b p = -1 := by unfold PM.node; rw [if_neg]; rintro ⟨q, _⟩; exact h q
    rw [e]
    exact node_no m a b p w h

theorem ofInt_small (a : Nat) (ha : a < 9223372036854775808) : (BitVec.ofInt 64 (a : Int)).toNat = a := by
  rw [BitVec.ofInt_natCast, BitVec.toNat_ofNat]; exact Nat.mod_eq_of_lt (by omega)
/-- Exclusive or of two numbers not below 0. -/
theorem xor_small (a b : Nat) (ha : a < 9223372036854775808) (hb : b < 9223372036854775808) : bits .xor .i64 (a : Int) (b : Int) = ((a ^^^ b : Nat) : Int) := by
  have hx : a ^^^ b < 2 ^ 63 := Nat.xor_lt_two_pow (by omega) (by omega)
  show IntKind.i64.wrap ((BitVec.ofInt 64 (a : Int) ^^^ BitVec.ofInt 64 (b : Int)).toNat : Int) = _
  rw [BitVec.toNat_xor, ofInt_small a ha, ofInt_small b hb, IntKind.wrap_i64]
  omega
theorem hash_num (n : Nat) (s : Int) (hn : n < 9223372036854775808) (hs : 1 ≤ s) : (bits .xor .i64 (n : Int) ((n : Int) / 16)).tmod s = (((n ^^^ (n >>> 4)) % s.toNat : Nat) : Int) := by
  obtain ⟨k, rfl⟩ : ∃ k : Nat, s = k := ⟨s.toNat, by omega⟩
  have e : (n : Int) / (16 : Int) = ((n >>> 4 : Nat) : Int) := by
    rw [Nat.shiftRight_eq_div_pow]
    show (n : Int) / 16 = ((n / 16 : Nat) : Int)
    omega
  rw [e, xor_small n (n >>> 4) hn (by rw [Nat.shiftRight_eq_div_pow]; omega), Int.tmod_eq_emod_of_nonneg (by omega), Int.toNat_natCast]
  rfl

theorem PM.size_range (m : PM) : 0 ≤ m.size ∧ m.size ≤ 314 := by
  by_cases h : m.Ok
  · have := m.size_bounds h; omega
  · simp [PM.size, h]

end Go.Proofs.Ytmcmajndcbobpaa
