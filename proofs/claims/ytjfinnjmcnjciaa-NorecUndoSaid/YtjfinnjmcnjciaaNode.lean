/-
  THE CONTRACTS OF package place: Node, Hash.
-/
import Derived.Test.YtjfinnjmcnjciaaPlc
import Derived.Laws.BitsAllLaws
import Derived.Laws.BitsLemmas
namespace Go.Proofs.Ytjfinnjmcnjciaa
open Go.RowKit

theorem ofInt_small (a : Nat) (ha : a < 9223372036854775808) : (BitVec.ofInt 64 (a : Int)).toNat = a := by
  rw [BitVec.ofInt_natCast, BitVec.toNat_ofNat]; exact Nat.mod_eq_of_lt (by omega)
/-- Exclusive or of two numbers not below 0. -/
theorem xor_small (a b : Nat) (ha : a < 9223372036854775808) (hb : b < 9223372036854775808) : bits .xor .i64 (a : Int) (b : Int) = ((a ^^^ b : Nat) : Int) := by
  have hx : a ^^^ b < 2 ^ 63 := Nat.xor_lt_two_pow (by omega) (by omega)
  show IntKind.i64.wrap ((BitVec.ofInt 64 (a : Int) ^^^ BitVec.ofInt 64 (b : Int)).toNat : Int) = _
  rw [BitVec.toNat_xor, ofInt_small a ha, ofInt_small b hb, IntKind.wrap_i64]
  omega
theorem hash_num (n : Nat) (s : Int) (hn : n < 9223372036854775808) (hs : 1 ≤ s) : (bits .xor .i64 (n : Int) ((n : Int) / 16)).tmod s = (((n ^^^ (n >>> 4)) % s.toNat : Nat) : Int) := by
  obtain ⟨k, rfl⟩ : ∃ k : Nat, s = k := ⟨s.toNat, by omega⟩
  have e : (n : Int) / (16 : Int) = ((n >>> 4 : Nat) : Int) := by
    rw [Nat.shiftRight_eq_div_pow]
    show (n : Int) / 16 = ((n / 16 : Nat) : Int)
    omega
  rw [e, xor_small n (n >>> 4) hn (by rw [Nat.shiftRight_eq_div_pow]; omega), Int.tmod_eq_emod_of_nonneg (by omega), Int.toNat_natCast]
  rfl

set_option maxHeartbeats 1000000 in
theorem hash_in (m : PM) (n : Nat) (w : World) (h : m.Ok) (h1 : (n : Int) < m.size) :
    Calls Try.prog 90 #[m.v, .int .i64 (n : Int)] w fun e w' => e = .returned (.int .i64 (((n ^^^ (n >>> 4)) % m.s.toNat : Nat) : Int)) ∧ Below w.heap.size w w' := by
  have hb := m.size_bounds h
  obtain ⟨hb1, hb2⟩ := hb
  have hA := inB_yes (n := (n : Int)) (a := 0) (b := m.size - 1) (by omega) (by omega)
  obtain ⟨s1, s2, _⟩ := h
  obtain ⟨s, l, t, c, d⟩ := m
  generalize hz : PM.size ⟨s, l, t, c, d⟩ = z at *
  have HZ := hid hz
  clear hz
  simp only at s1 s2
  show Calls _ _ #[.agg #[.int .i64 s, .int .i64 l, .int .i64 t, .int .i64 c, .int .i64 d], _] _ _
  go_enter Try.func90, Try.ntmps90
  go_wp2_with (first | (go_at_call 106; refine (within_any _ _ _ _).mono ?_; rintro e w' ⟨rfl, rfl⟩) | (go_at_call 70; refine (Size_any ⟨s, l, t, c, d⟩ _).mono ?_; rw [HZ.out]; rintro e w1 ⟨rfl, hq⟩; obtain ⟨hc1, hf1, hz1⟩ := bcell hq (size_alloc1 _ _); have HB1 := hid hq; clear hq))
  go_ret
  exact ⟨by rw [← hash_num n s (by omega) s1]; rfl, bthen (bnew (bid w) _) HB1.out⟩

set_option maxHeartbeats 1000000 in
theorem hash_out (m : PM) (a : Int) (w : World) (h0 : 0 ≤ m.size) (h1 : m.size ≤ 314) (h : inB a 0 (m.size - 1) = false) :
    Calls Try.prog 90 #[m.v, .int .i64 a] w fun e w' => e = .returned (.int .i64 (-1)) ∧ Below w.heap.size w w' := by
  obtain ⟨s, l, t, c, d⟩ := m
  generalize hz : PM.size ⟨s, l, t, c, d⟩ = z at *
  have HZ := hid hz
  clear hz
  show Calls _ _ #[.agg #[.int .i64 s, .int .i64 l, .int .i64 t, .int .i64 c, .int .i64 d], _] _ _
  go_enter Try.func90, Try.ntmps90
  go_wp2_with (first | (go_at_call 106; refine (within_any _ _ _ _).mono ?_; rintro e w' ⟨rfl, rfl⟩) | (go_at_call 70; refine (Size_any ⟨s, l, t, c, d⟩ _).mono ?_; rw [HZ.out]; rintro e w1 ⟨rfl, hq⟩; obtain ⟨hc1, hf1, hz1⟩ := bcell hq (size_alloc1 _ _); have HB1 := hid hq; clear hq))
  go_ret
  exact ⟨rfl, bthen (bnew (bid w) _) HB1.out⟩

theorem PM.size_range (m : PM) : 0 ≤ m.size ∧ m.size ≤ 314 := by
  by_cases h : m.Ok
  · have := m.size_bounds h; omega
  · simp [PM.size, h]

theorem Hash_any (m : PM) (a : Int) (w : World) :
    Calls Try.prog 90 #[m.v, .int .i64 a] w fun e w' => e = .returned (.int .i64 (m.hash a)) ∧ Below w.heap.size w w' := by
  by_cases h : m.Ok ∧ 0 ≤ a ∧ a < m.size
  · obtain ⟨h1, h2, h3⟩ := h
    have e : m.hash a = (((a.toNat ^^^ (a.toNat >>> 4)) % m.s.toNat : Nat) : Int) := by unfold PM.hash; rw [if_pos ⟨h1, h2, h3⟩]
    rw [e]
    obtain ⟨n, rfl⟩ : ∃ n : Nat, a = n := ⟨a.toNat, by omega⟩
    rw [Int.toNat_natCast]
    exact hash_in m n w h1 h3
  · have e : m.hash a = -1 := by unfold PM.hash; rw [if_neg h]
    rw [e]
    obtain ⟨r1, r2⟩ := m.size_range
    refine hash_out m a w r1 r2 (inB_no ?_)
    by_cases ho : m.Ok
    · rcases Int.lt_or_le a 0 with q | q
      · exact .inl q
      · right
        have : ¬ a < m.size := fun q2 => h ⟨ho, q, q2⟩
        omega
    · have : m.size = 0 := by simp [PM.size, ho]
      rw [this]
      omega

end Go.Proofs.Ytjfinnjmcnjciaa
