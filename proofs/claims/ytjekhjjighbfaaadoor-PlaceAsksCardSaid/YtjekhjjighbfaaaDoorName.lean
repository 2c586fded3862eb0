/-
  THE CONTRACT OF place.Name.
-/
import Derived.Test.YtjekhjjighbfaaaDoorWords
namespace Go.Proofs.YtjekhjjighbfaaaDoor
open Go.RowKit

/-- There is such a word: the p-th part of the i-th thing of kind k. -/
structure PM.Has (m : PM) (k i p : Nat) : Prop where
  kind : k < 9
  many : (i : Int) < m.many k
  part : (p : Int) < PM.each k

/-- Where it stands. -/
def PM.loc (m : PM) (k i p : Nat) : Int := m.from_ k + i * PM.each k + p

theorem PM.mono (m : PM) (h : m.Ok) : ∀ (j i : Nat), i ≤ j → j ≤ 8 → m.from_ i ≤ m.from_ j := by
  intro j
  induction j with
  | zero =>
    intro i h1 _
    obtain rfl : i = 0 := by omega
    exact Int.le_refl _
  | succ j ih =>
    intro i h1 h2
    rcases Nat.lt_or_ge i (j + 1) with h3 | h3
    · have := ih i (by omega) (by omega)
      obtain ⟨_, _, b1, b2, b3, b4⟩ := m.bounds h j (by omega)
      have hn := m.from_next j (by omega)
      have : 0 ≤ m.many j * PM.each j := Int.mul_nonneg b1 (by omega)
      omega
    · obtain rfl : i = j + 1 := by omega
      exact Int.le_refl _

theorem PM.each_is (k : Nat) (hk : k < 9) : PM.each k = 1 ∨ PM.each k = 2 ∨ PM.each k = 6 := by
  have : k = 0 ∨ k = 1 ∨ k = 2 ∨ k = 3 ∨ k = 4 ∨ k = 5 ∨ k = 6 ∨ k = 7 ∨ k = 8 := by omega
  rcases this with rfl | rfl | rfl | rfl | rfl | rfl | rfl | rfl | rfl <;> simp [PM.each]

theorem PM.loc_range {m : PM} (h : m.Ok) {k i p : Nat} (hh : m.Has k i p) : m.from_ k ≤ m.loc k i p ∧ m.loc k i p < m.from_ k + m.many k * PM.each k ∧ 0 ≤ m.loc k i p ∧ m.loc k i p < m.size := by
  obtain ⟨h1, h2, h3⟩ := hh
  obtain ⟨c1, _, b1, b2, b3, b4⟩ := m.bounds h k h1
  have hs := m.size_ok h
  have hle : m.from_ k + m.many k * PM.each k ≤ m.size := by
    rcases Nat.lt_or_ge k 8 with h8 | h8
    · rw [← m.from_next k h8, hs]
      have := m.mono h 8 (k + 1) (by omega) (Nat.le_refl _)
      have := h.d1
      omega
    · obtain rfl : k = 8 := by omega
      rw [hs]
      exact Int.le_refl _
  unfold PM.loc
  rcases PM.each_is k h1 with e | e | e <;> rw [e] at h3 hle ⊢ <;> omega

theorem PM.kind_one {m : PM} (h : m.Ok) {k i p k' : Nat} (hh : m.Has k i p) (hk : IsKind m (m.loc k i p) k') : k' = k := by
  obtain ⟨r1, r2, _⟩ := m.loc_range h hh
  obtain ⟨q1, q2, q3⟩ := hk
  have hk9 := hh.kind
  rcases Nat.lt_trichotomy k' k with hlt | heq | hgt
  · exfalso
    rcases q3 with q3 | q3
    · omega
    · have := m.mono h k (k' + 1) (by omega) (by omega)
      omega
  · exact heq
  · exfalso
    have := m.mono h k' (k + 1) (by omega) (by omega)
    have hn := m.from_next k (by omega)
    omega

theorem find_at (m : PM) (k i p : Nat) (w : World) (h : m.Ok) (hh : m.Has k i p) :
    Calls Tryd.prog 44 #[m.v, .int .i64 (m.loc k i p)] w fun e w' => e = .returned (.tuple #[.int .i64 (k : Int), .int .i64 (i : Int), .int .i64 (p : Int)]) ∧ Below w.heap.size w w' := by
  obtain ⟨_, _, r3, r4⟩ := m.loc_range h hh
  obtain ⟨_, s2⟩ := m.size_range
  refine (find_any m _ w h r3 (by omega)).mono ?_
  rintro e w' ⟨⟨k', hk, rfl⟩, hb⟩
  obtain rfl := m.kind_one h hh hk
  refine ⟨?_, hb⟩
  have h3 := hh.part
  have e1 : (m.loc k' i p - m.from_ k') / PM.each k' = i := by
    unfold PM.loc
    rcases PM.each_is k' hh.kind with e | e | e <;> rw [e] at h3 ⊢ <;> omega
  have e2 : (m.loc k' i p - m.from_ k') % PM.each k' = p := by
    unfold PM.loc
    rcases PM.each_is k' hh.kind with e | e | e <;> rw [e] at h3 ⊢ <;> omega
  rw [e1, e2]

/-- Each place is one's. -/
theorem PM.loc_all {m : PM} (h : m.Ok) {a : Int} (h0 : 0 ≤ a) (h1 : a < m.size) : ∃ k i p, m.Has k i p ∧ m.loc k i p = a := by
  have hk : ∃ k, IsKind m a k := by
    by_cases c1 : a < m.from_ 1
    · exact ⟨0, by omega, h0, .inr c1⟩
    by_cases c2 : a < m.from_ 2
    · exact ⟨1, by omega, by omega, .inr c2⟩
    by_cases c3 : a < m.from_ 3
    · exact ⟨2, by omega, by omega, .inr c3⟩
    by_cases c4 : a < m.from_ 4
    · exact ⟨3, by omega, by omega, .inr c4⟩
    by_cases c5 : a < m.from_ 5
    · exact ⟨4, by omega, by omega, .inr c5⟩
    by_cases c6 : a < m.from_ 6
    · exact ⟨5, by omega, by omega, .inr c6⟩
    by_cases c7 : a < m.from_ 7
    · exact ⟨6, by omega, by omega, .inr c7⟩
    by_cases c8 : a < m.from_ 8
    · exact ⟨7, by omega, by omega, .inr c8⟩
    · exact ⟨8, by omega, by omega, .inl rfl⟩
  obtain ⟨k, q1, q2, q3⟩ := hk
  have hlt : a < m.from_ k + m.many k * PM.each k := by
    rcases q3 with rfl | q3
    · have := m.size_ok h
      have e : m.many 8 * PM.each 8 = m.d * 2 := rfl
      omega
    · rcases Nat.lt_or_ge k 8 with h8 | h8
      · rw [← m.from_next k h8]; exact q3
      · obtain rfl : k = 8 := by omega
        have := m.size_ok h
        have e : m.many 8 * PM.each 8 = m.d * 2 := rfl
        omega
  obtain ⟨_, _, b1, b2, b3, b4⟩ := m.bounds h k q1
  generalize hM : m.many k = M at *
  refine ⟨k, ((a - m.from_ k) / PM.each k).toNat, ((a - m.from_ k) % PM.each k).toNat, ⟨q1, ?_, ?_⟩, ?_⟩
  · rw [hM]; rcases PM.each_is k q1 with e | e | e <;> rw [e] at hlt ⊢ <;> omega
  · rcases PM.each_is k q1 with e | e | e <;> rw [e] at hlt ⊢ <;> omega
  · unfold PM.loc; rcases PM.each_is k q1 with e | e | e <;> rw [e] at hlt ⊢ <;> omega

/-- What a word is called. -/
def nameL (L : Nat) (k i p : Nat) : List UInt8 :=
  if k = 0 ∨ k = 1 then kindL k p else if k = 2 ∨ k = 6 ∨ k = 8 then kindL k p ++ 32 :: dd i
  else if k = 5 then kindL 5 p ++ 32 :: (dd (i / L) ++ 32 :: (dd (i % L) ++ 32 :: partL 5 p)) else kindL k p ++ 32 :: (dd i ++ 32 :: partL k p)

set_option maxHeartbeats 1000000 in
theorem Name_0 (m : PM) (i p : Nat) (w : World) (h : m.Ok) (hh : m.Has 0 i p) :
    Calls Tryd.prog 37 #[m.v, .int .i64 (m.loc 0 i p)] w fun e w' => e = .returned (.string ⟨(nameL m.l.toNat 0 i p).toArray⟩) ∧ Below w.heap.size w w' := by
  obtain ⟨_, _, r3, r4⟩ := m.loc_range h hh
  obtain ⟨s1, s2⟩ := m.size_range
  have hA := inB_yes (n := m.loc 0 i p) (a := 0) (b := m.size - 1) r3 (by omega)
  have HFi := hid (find_at m 0 i p · h hh)
  have hi := hh.many
  have hp := hh.part
  have hb := m.bounds h 0 (by decide)
  obtain ⟨_, _, _, hb, _⟩ := hb
  have hi99 : i < 100 := by omega
  have HK := hid (kindName0 p)
  have l2 := kindL_len 0 0
  have l1 := dd_len i
  generalize hloc : m.loc 0 i p = a at *
  generalize hz : m.size = z at *
  have HZ := hid hz
  clear hz hloc
  clear hh hi hp hb
  obtain ⟨s, l, t, c, d⟩ := m
  show Calls _ _ #[.agg #[.int .i64 s, .int .i64 l, .int .i64 t, .int .i64 c, .int .i64 d], _] _ _
  go_enter Tryd.func37, Tryd.ntmps37
  go_wp2_with (first | (go_at_call 10; refine (Size_any ⟨s, l, t, c, d⟩ _).mono ?_; rw [HZ.out]; rintro e w1 ⟨rfl, hb1⟩; obtain ⟨hc1, hf1, hz1⟩ := bcell hb1 (size_alloc1 _ _); have HB1 := hid hb1; clear hb1) | (go_at_call 41; refine (within_any _ _ _ _).mono ?_; rintro e w' ⟨rfl, rfl⟩) | (go_at_call 44; refine (HFi.out _).mono ?_; rintro e w2 ⟨rfl, hb2⟩; have HB2 := hid hb2; obtain ⟨hc2, hf2, hz2⟩ := bcell hb2 rfl; clear hb2) | (go_at_call 45; refine (HK.out _).mono ?_; rintro e w' ⟨rfl, rfl⟩) | (go_at_call 46; refine (itoa_any _ (by omega) _).mono ?_; rintro e w' ⟨rfl, rfl⟩))
  go_ret
  refine ⟨?_, bthen (bthen (bnew (bid w) _) HB1.out) HB2.out⟩
  rfl

set_option maxHeartbeats 1000000 in
theorem Name_1 (m : PM) (i p : Nat) (w : World) (h : m.Ok) (hh : m.Has 1 i p) :
    Calls Tryd.prog 37 #[m.v, .int .i64 (m.loc 1 i p)] w fun e w' => e = .returned (.string ⟨(nameL m.l.toNat 1 i p).toArray⟩) ∧ Below w.heap.size w w' := by
  obtain ⟨_, _, r3, r4⟩ := m.loc_range h hh
  obtain ⟨s1, s2⟩ := m.size_range
  have hA := inB_yes (n := m.loc 1 i p) (a := 0) (b := m.size - 1) r3 (by omega)
  have HFi := hid (find_at m 1 i p · h hh)
  have hi := hh.many
  have hp := hh.part
  have hb := m.bounds h 1 (by decide)
  obtain ⟨_, _, _, hb, _⟩ := hb
  have hi99 : i < 100 := by omega
  have HK := hid (kindName1 p)
  have l2 := kindL_len 1 0
  have l1 := dd_len i
  generalize hloc : m.loc 1 i p = a at *
  generalize hz : m.size = z at *
  have HZ := hid hz
  clear hz hloc
  clear hh hi hp hb
  obtain ⟨s, l, t, c, d⟩ := m
  show Calls _ _ #[.agg #[.int .i64 s, .int .i64 l, .int .i64 t, .int .i64 c, .int .i64 d], _] _ _
  go_enter Tryd.func37, Tryd.ntmps37
  go_wp2_with (first | (go_at_call 10; refine (Size_any ⟨s, l, t, c, d⟩ _).mono ?_; rw [HZ.out]; rintro e w1 ⟨rfl, hb1⟩; obtain ⟨hc1, hf1, hz1⟩ := bcell hb1 (size_alloc1 _ _); have HB1 := hid hb1; clear hb1) | (go_at_call 41; refine (within_any _ _ _ _).mono ?_; rintro e w' ⟨rfl, rfl⟩) | (go_at_call 44; refine (HFi.out _).mono ?_; rintro e w2 ⟨rfl, hb2⟩; have HB2 := hid hb2; obtain ⟨hc2, hf2, hz2⟩ := bcell hb2 rfl; clear hb2) | (go_at_call 45; refine (HK.out _).mono ?_; rintro e w' ⟨rfl, rfl⟩) | (go_at_call 46; refine (itoa_any _ (by omega) _).mono ?_; rintro e w' ⟨rfl, rfl⟩))
  go_ret
  refine ⟨?_, bthen (bthen (bnew (bid w) _) HB1.out) HB2.out⟩
  rfl

set_option maxHeartbeats 1000000 in
theorem Name_2 (m : PM) (i p : Nat) (w : World) (h : m.Ok) (hh : m.Has 2 i p) :
    Calls Tryd.prog 37 #[m.v, .int .i64 (m.loc 2 i p)] w fun e w' => e = .returned (.string ⟨(nameL m.l.toNat 2 i p).toArray⟩) ∧ Below w.heap.size w w' := by
  obtain ⟨_, _, r3, r4⟩ := m.loc_range h hh
  obtain ⟨s1, s2⟩ := m.size_range
  have hA := inB_yes (n := m.loc 2 i p) (a := 0) (b := m.size - 1) r3 (by omega)
  have HFi := hid (find_at m 2 i p · h hh)
  have hi := hh.many
  have hp := hh.part
  have hb := m.bounds h 2 (by decide)
  obtain ⟨_, _, _, hb, _⟩ := hb
  have hi99 : i < 100 := by omega
  have HK := hid (kindName2 p)
  have l2 := kindL_len 2 0
  have l1 := dd_len i
  generalize hloc : m.loc 2 i p = a at *
  generalize hz : m.size = z at *
  have HZ := hid hz
  clear hz hloc
  clear hh hi hp hb
  obtain ⟨s, l, t, c, d⟩ := m
  show Calls _ _ #[.agg #[.int .i64 s, .int .i64 l, .int .i64 t, .int .i64 c, .int .i64 d], _] _ _
  go_enter Tryd.func37, Tryd.ntmps37
  go_wp2_with (first | (go_at_call 10; refine (Size_any ⟨s, l, t, c, d⟩ _).mono ?_; rw [HZ.out]; rintro e w1 ⟨rfl, hb1⟩; obtain ⟨hc1, hf1, hz1⟩ := bcell hb1 (size_alloc1 _ _); have HB1 := hid hb1; clear hb1) | (go_at_call 41; refine (within_any _ _ _ _).mono ?_; rintro e w' ⟨rfl, rfl⟩) | (go_at_call 44; refine (HFi.out _).mono ?_; rintro e w2 ⟨rfl, hb2⟩; have HB2 := hid hb2; obtain ⟨hc2, hf2, hz2⟩ := bcell hb2 rfl; clear hb2) | (go_at_call 45; refine (HK.out _).mono ?_; rintro e w' ⟨rfl, rfl⟩) | (go_at_call 46; refine (itoa_any _ (by omega) _).mono ?_; rintro e w' ⟨rfl, rfl⟩))
  go_ret
  refine ⟨?_, bthen (bthen (bnew (bid w) _) HB1.out) HB2.out⟩
  have e : nameL l.toNat 2 i p = kindL 2 0 ++ (32 :: dd i) := by simp [nameL, kindL]
  show Ending.returned (.string _) = _
  rw [e]
  first
    | rfl
    | (congr 2; apply ByteArray.ext; simp)

set_option maxHeartbeats 1000000 in
theorem Name_3 (m : PM) (i p : Nat) (w : World) (h : m.Ok) (hh : m.Has 3 i p) :
    Calls Tryd.prog 37 #[m.v, .int .i64 (m.loc 3 i p)] w fun e w' => e = .returned (.string ⟨(nameL m.l.toNat 3 i p).toArray⟩) ∧ Below w.heap.size w w' := by
  obtain ⟨_, _, r3, r4⟩ := m.loc_range h hh
  obtain ⟨s1, s2⟩ := m.size_range
  have hA := inB_yes (n := m.loc 3 i p) (a := 0) (b := m.size - 1) r3 (by omega)
  have HFi := hid (find_at m 3 i p · h hh)
  have hi := hh.many
  have hp := hh.part
  have hb := m.bounds h 3 (by decide)
  obtain ⟨_, _, _, hb, _⟩ := hb
  have hi99 : i < 100 := by omega
  have HP := hid (partName3 p (by have e : PM.each 3 = 6 := rfl; rw [e] at hp; omega) p rfl)
  have l3 := partL_len 3 p
  have HK := hid (kindName3 p)
  have l2 := kindL_len 3 0
  have l1 := dd_len i
  generalize hloc : m.loc 3 i p = a at *
  generalize hz : m.size = z at *
  have HZ := hid hz
  clear hz hloc
  clear hh hi hp hb
  obtain ⟨s, l, t, c, d⟩ := m
  show Calls _ _ #[.agg #[.int .i64 s, .int .i64 l, .int .i64 t, .int .i64 c, .int .i64 d], _] _ _
  go_enter Tryd.func37, Tryd.ntmps37
  go_wp2_with (first | (go_at_call 10; refine (Size_any ⟨s, l, t, c, d⟩ _).mono ?_; rw [HZ.out]; rintro e w1 ⟨rfl, hb1⟩; obtain ⟨hc1, hf1, hz1⟩ := bcell hb1 (size_alloc1 _ _); have HB1 := hid hb1; clear hb1) | (go_at_call 41; refine (within_any _ _ _ _).mono ?_; rintro e w' ⟨rfl, rfl⟩) | (go_at_call 44; refine (HFi.out _).mono ?_; rintro e w2 ⟨rfl, hb2⟩; have HB2 := hid hb2; obtain ⟨hc2, hf2, hz2⟩ := bcell hb2 rfl; clear hb2) | (go_at_call 45; refine (HK.out _).mono ?_; rintro e w' ⟨rfl, rfl⟩) | (go_at_call 46; refine (itoa_any _ (by omega) _).mono ?_; rintro e w' ⟨rfl, rfl⟩) | (go_at_call 47; refine (HP.out _).mono ?_; rintro e w' ⟨rfl, rfl⟩))
  go_ret
  refine ⟨?_, bthen (bthen (bnew (bid w) _) HB1.out) HB2.out⟩
  have e : nameL l.toNat 3 i p = kindL 3 0 ++ (32 :: (dd i ++ 32 :: partL 3 p)) := by simp [nameL, kindL]
  show Ending.returned (.string _) = _
  rw [e]
  first
    | rfl
    | (congr 2; apply ByteArray.ext; simp)

set_option maxHeartbeats 1000000 in
theorem Name_4 (m : PM) (i p : Nat) (w : World) (h : m.Ok) (hh : m.Has 4 i p) :
    Calls Tryd.prog 37 #[m.v, .int .i64 (m.loc 4 i p)] w fun e w' => e = .returned (.string ⟨(nameL m.l.toNat 4 i p).toArray⟩) ∧ Below w.heap.size w w' := by
  obtain ⟨_, _, r3, r4⟩ := m.loc_range h hh
  obtain ⟨s1, s2⟩ := m.size_range
  have hA := inB_yes (n := m.loc 4 i p) (a := 0) (b := m.size - 1) r3 (by omega)
  have HFi := hid (find_at m 4 i p · h hh)
  have hi := hh.many
  have hp := hh.part
  have hb := m.bounds h 4 (by decide)
  obtain ⟨_, _, _, hb, _⟩ := hb
  have hi99 : i < 100 := by omega
  have HP := hid (partName4 p (by have e : PM.each 4 = 2 := rfl; rw [e] at hp; omega) p rfl)
  have l3 := partL_len 4 p
  have HK := hid (kindName4 p)
  have l2 := kindL_len 4 0
  have l1 := dd_len i
  generalize hloc : m.loc 4 i p = a at *
  generalize hz : m.size = z at *
  have HZ := hid hz
  clear hz hloc
  clear hh hi hp hb
  obtain ⟨s, l, t, c, d⟩ := m
  show Calls _ _ #[.agg #[.int .i64 s, .int .i64 l, .int .i64 t, .int .i64 c, .int .i64 d], _] _ _
  go_enter Tryd.func37, Tryd.ntmps37
  go_wp2_with (first | (go_at_call 10; refine (Size_any ⟨s, l, t, c, d⟩ _).mono ?_; rw [HZ.out]; rintro e w1 ⟨rfl, hb1⟩; obtain ⟨hc1, hf1, hz1⟩ := bcell hb1 (size_alloc1 _ _); have HB1 := hid hb1; clear hb1) | (go_at_call 41; refine (within_any _ _ _ _).mono ?_; rintro e w' ⟨rfl, rfl⟩) | (go_at_call 44; refine (HFi.out _).mono ?_; rintro e w2 ⟨rfl, hb2⟩; have HB2 := hid hb2; obtain ⟨hc2, hf2, hz2⟩ := bcell hb2 rfl; clear hb2) | (go_at_call 45; refine (HK.out _).mono ?_; rintro e w' ⟨rfl, rfl⟩) | (go_at_call 46; refine (itoa_any _ (by omega) _).mono ?_; rintro e w' ⟨rfl, rfl⟩) | (go_at_call 47; refine (HP.out _).mono ?_; rintro e w' ⟨rfl, rfl⟩))
  go_ret
  refine ⟨?_, bthen (bthen (bnew (bid w) _) HB1.out) HB2.out⟩
  have e : nameL l.toNat 4 i p = kindL 4 0 ++ (32 :: (dd i ++ 32 :: partL 4 p)) := by simp [nameL, kindL]
  show Ending.returned (.string _) = _
  rw [e]
  first
    | rfl
    | (congr 2; apply ByteArray.ext; simp)

set_option maxHeartbeats 1000000 in
theorem Name_5 (m : PM) (i p : Nat) (w : World) (h : m.Ok) (hh : m.Has 5 i p) :
    Calls Tryd.prog 37 #[m.v, .int .i64 (m.loc 5 i p)] w fun e w' => e = .returned (.string ⟨(nameL m.l.toNat 5 i p).toArray⟩) ∧ Below w.heap.size w w' := by
  obtain ⟨_, _, r3, r4⟩ := m.loc_range h hh
  obtain ⟨s1, s2⟩ := m.size_range
  have hA := inB_yes (n := m.loc 5 i p) (a := 0) (b := m.size - 1) r3 (by omega)
  have HFi := hid (find_at m 5 i p · h hh)
  have hi := hh.many
  have hp := hh.part
  have hb := m.bounds h 5 (by decide)
  obtain ⟨_, _, _, hb, _⟩ := hb
  have hi99 : i < 100 := by omega
  have HP := hid (partName5 p (by have e : PM.each 5 = 2 := rfl; rw [e] at hp; omega) p rfl)
  have l3 := partL_len 5 p
  have HK := hid (kindName5 p)
  have l2 := kindL_len 5 0
  have hmany : (i : Int) < m.t * m.l := hi
  obtain ⟨_, ht4⟩ := m.tl h
  have hl0 : 1 ≤ m.l := by
    rcases Int.lt_or_le 0 m.l with q | q
    · omega
    · have : m.l = 0 := by have := h.l1; omega
      rw [this] at hmany
      omega
  have hl4 := h.l2
  obtain ⟨L, hL⟩ : ∃ L : Nat, m.l = L := ⟨m.l.toNat, by omega⟩
  have q1 : i / L < 100 := by have := Nat.div_le_self i L; omega
  have q2 : i % L < 100 := by have := Nat.mod_le i L; omega
  have hq1 := itoa_any (i / L) q1
  have hq2 := itoa_any (i % L) q2
  rw [Int.natCast_ediv] at hq1
  rw [Int.natCast_emod] at hq2
  have HQ1 := hid hq1
  have HQ2 := hid hq2
  clear hq1 hq2
  have e1 : 0 ≤ (i : Int) / (L : Int) ∧ (i : Int) / (L : Int) < 100 := by rw [← Int.natCast_ediv]; exact ⟨Int.natCast_nonneg _, Int.ofNat_lt.2 q1⟩
  have e2 : 0 ≤ (i : Int) % (L : Int) ∧ (i : Int) % (L : Int) < 100 := by rw [← Int.natCast_emod]; exact ⟨Int.natCast_nonneg _, Int.ofNat_lt.2 q2⟩
  obtain ⟨e3, e4⟩ := e1
  obtain ⟨e5, e6⟩ := e2
  have l4 := dd_len (i / L)
  have l5 := dd_len (i % L)
  have hL1 : 1 ≤ L := by omega
  clear hmany ht4 hl0 hl4
  generalize hloc : m.loc 5 i p = a at *
  generalize hz : m.size = z at *
  have HZ := hid hz
  clear hz hloc
  clear hh hi hp hb
  obtain ⟨s, l, t, c, d⟩ := m
  simp only at hL
  subst hL
  show Calls _ _ #[.agg #[.int .i64 s, .int .i64 (L : Int), .int .i64 t, .int .i64 c, .int .i64 d], _] _ _
  go_enter Tryd.func37, Tryd.ntmps37
  go_wp2_with (first | (go_at_call 10; refine (Size_any ⟨s, (L : Int), t, c, d⟩ _).mono ?_; rw [HZ.out]; rintro e w1 ⟨rfl, hb1⟩; obtain ⟨hc1, hf1, hz1⟩ := bcell hb1 (size_alloc1 _ _); have hz3 : w.heap.size < w1.heap.size := hz1; have HB1 := hid hb1; clear hb1) | (go_at_call 41; refine (within_any _ _ _ _).mono ?_; rintro e w' ⟨rfl, rfl⟩) | (go_at_call 44; refine (HFi.out _).mono ?_; rintro e w2 ⟨rfl, hb2⟩; have HB2 := hid hb2; obtain ⟨hc2, hf2, hz2⟩ := bcell hb2 rfl; clear hb2) | (go_at_call 45; refine (HK.out _).mono ?_; rintro e w' ⟨rfl, rfl⟩) | (go_at_call 46; first | (refine (HQ1.out _).mono ?_; rintro e w5 ⟨rfl, rfl⟩) | (refine (HQ2.out _).mono ?_; rintro e w5 ⟨rfl, rfl⟩)) | (go_at_call 47; refine (HP.out _).mono ?_; rintro e w' ⟨rfl, rfl⟩))
  go_ret
  refine ⟨?_, bthen (bthen (bnew (bid w) _) HB1.out) HB2.out⟩
  have e : nameL L 5 i p = kindL 5 0 ++ (32 :: (dd (i / L) ++ 32 :: (dd (i % L) ++ 32 :: partL 5 p))) := by simp [nameL, kindL]
  show Ending.returned (.string _) = _
  rw [show Int.toNat (L : Int) = L from Int.toNat_natCast L, e]
  first
    | rfl
    | (congr 2; apply ByteArray.ext; simp)

set_option maxHeartbeats 1000000 in
theorem Name_6 (m : PM) (i p : Nat) (w : World) (h : m.Ok) (hh : m.Has 6 i p) :
    Calls Tryd.prog 37 #[m.v, .int .i64 (m.loc 6 i p)] w fun e w' => e = .returned (.string ⟨(nameL m.l.toNat 6 i p).toArray⟩) ∧ Below w.heap.size w w' := by
  obtain ⟨_, _, r3, r4⟩ := m.loc_range h hh
  obtain ⟨s1, s2⟩ := m.size_range
  have hA := inB_yes (n := m.loc 6 i p) (a := 0) (b := m.size - 1) r3 (by omega)
  have HFi := hid (find_at m 6 i p · h hh)
  have hi := hh.many
  have hp := hh.part
  have hb := m.bounds h 6 (by decide)
  obtain ⟨_, _, _, hb, _⟩ := hb
  have hi99 : i < 100 := by omega
  have HK := hid (kindName6 p)
  have l2 := kindL_len 6 0
  have l1 := dd_len i
  generalize hloc : m.loc 6 i p = a at *
  generalize hz : m.size = z at *
  have HZ := hid hz
  clear hz hloc
  clear hh hi hp hb
  obtain ⟨s, l, t, c, d⟩ := m
  show Calls _ _ #[.agg #[.int .i64 s, .int .i64 l, .int .i64 t, .int .i64 c, .int .i64 d], _] _ _
  go_enter Tryd.func37, Tryd.ntmps37
  go_wp2_with (first | (go_at_call 10; refine (Size_any ⟨s, l, t, c, d⟩ _).mono ?_; rw [HZ.out]; rintro e w1 ⟨rfl, hb1⟩; obtain ⟨hc1, hf1, hz1⟩ := bcell hb1 (size_alloc1 _ _); have HB1 := hid hb1; clear hb1) | (go_at_call 41; refine (within_any _ _ _ _).mono ?_; rintro e w' ⟨rfl, rfl⟩) | (go_at_call 44; refine (HFi.out _).mono ?_; rintro e w2 ⟨rfl, hb2⟩; have HB2 := hid hb2; obtain ⟨hc2, hf2, hz2⟩ := bcell hb2 rfl; clear hb2) | (go_at_call 45; refine (HK.out _).mono ?_; rintro e w' ⟨rfl, rfl⟩) | (go_at_call 46; refine (itoa_any _ (by omega) _).mono ?_; rintro e w' ⟨rfl, rfl⟩))
  go_ret
  refine ⟨?_, bthen (bthen (bnew (bid w) _) HB1.out) HB2.out⟩
  have e : nameL l.toNat 6 i p = kindL 6 0 ++ (32 :: dd i) := by simp [nameL, kindL]
  show Ending.returned (.string _) = _
  rw [e]
  first
    | rfl
    | (congr 2; apply ByteArray.ext; simp)

set_option maxHeartbeats 1000000 in
theorem Name_7 (m : PM) (i p : Nat) (w : World) (h : m.Ok) (hh : m.Has 7 i p) :
    Calls Tryd.prog 37 #[m.v, .int .i64 (m.loc 7 i p)] w fun e w' => e = .returned (.string ⟨(nameL m.l.toNat 7 i p).toArray⟩) ∧ Below w.heap.size w w' := by
  obtain ⟨_, _, r3, r4⟩ := m.loc_range h hh
  obtain ⟨s1, s2⟩ := m.size_range
  have hA := inB_yes (n := m.loc 7 i p) (a := 0) (b := m.size - 1) r3 (by omega)
  have HFi := hid (find_at m 7 i p · h hh)
  have hi := hh.many
  have hp := hh.part
  have hb := m.bounds h 7 (by decide)
  obtain ⟨_, _, _, hb, _⟩ := hb
  have hi99 : i < 100 := by omega
  have HP := hid (partName7 p (by have e : PM.each 7 = 6 := rfl; rw [e] at hp; omega) p rfl)
  have l3 := partL_len 7 p
  have HK := hid (kindName7 p)
  have l2 := kindL_len 7 0
  have l1 := dd_len i
  generalize hloc : m.loc 7 i p = a at *
  generalize hz : m.size = z at *
  have HZ := hid hz
  clear hz hloc
  clear hh hi hp hb
  obtain ⟨s, l, t, c, d⟩ := m
  show Calls _ _ #[.agg #[.int .i64 s, .int .i64 l, .int .i64 t, .int .i64 c, .int .i64 d], _] _ _
  go_enter Tryd.func37, Tryd.ntmps37
  go_wp2_with (first | (go_at_call 10; refine (Size_any ⟨s, l, t, c, d⟩ _).mono ?_; rw [HZ.out]; rintro e w1 ⟨rfl, hb1⟩; obtain ⟨hc1, hf1, hz1⟩ := bcell hb1 (size_alloc1 _ _); have HB1 := hid hb1; clear hb1) | (go_at_call 41; refine (within_any _ _ _ _).mono ?_; rintro e w' ⟨rfl, rfl⟩) | (go_at_call 44; refine (HFi.out _).mono ?_; rintro e w2 ⟨rfl, hb2⟩; have HB2 := hid hb2; obtain ⟨hc2, hf2, hz2⟩ := bcell hb2 rfl; clear hb2) | (go_at_call 45; refine (HK.out _).mono ?_; rintro e w' ⟨rfl, rfl⟩) | (go_at_call 46; refine (itoa_any _ (by omega) _).mono ?_; rintro e w' ⟨rfl, rfl⟩) | (go_at_call 47; refine (HP.out _).mono ?_; rintro e w' ⟨rfl, rfl⟩))
  go_ret
  refine ⟨?_, bthen (bthen (bnew (bid w) _) HB1.out) HB2.out⟩
  have e : nameL l.toNat 7 i p = kindL 7 0 ++ (32 :: (dd i ++ 32 :: partL 7 p)) := by simp [nameL, kindL]
  show Ending.returned (.string _) = _
  rw [e]
  first
    | rfl
    | (congr 2; apply ByteArray.ext; simp)

set_option maxHeartbeats 1000000 in
theorem Name_8 (m : PM) (i p : Nat) (w : World) (h : m.Ok) (hh : m.Has 8 i p) :
    Calls Tryd.prog 37 #[m.v, .int .i64 (m.loc 8 i p)] w fun e w' => e = .returned (.string ⟨(nameL m.l.toNat 8 i p).toArray⟩) ∧ Below w.heap.size w w' := by
  obtain ⟨_, _, r3, r4⟩ := m.loc_range h hh
  obtain ⟨s1, s2⟩ := m.size_range
  have hA := inB_yes (n := m.loc 8 i p) (a := 0) (b := m.size - 1) r3 (by omega)
  have HFi := hid (find_at m 8 i p · h hh)
  have hi := hh.many
  have hp := hh.part
  have hb := m.bounds h 8 (by decide)
  obtain ⟨_, _, _, hb, _⟩ := hb
  have hi99 : i < 100 := by omega
  have HK := hid (kindName8 p (by have e : PM.each 8 = 2 := rfl; rw [e] at hp; omega) p rfl)
  have l2 := kindL_len 8 p
  have l1 := dd_len i
  generalize hloc : m.loc 8 i p = a at *
  generalize hz : m.size = z at *
  have HZ := hid hz
  clear hz hloc
  clear hh hi hp hb
  obtain ⟨s, l, t, c, d⟩ := m
  show Calls _ _ #[.agg #[.int .i64 s, .int .i64 l, .int .i64 t, .int .i64 c, .int .i64 d], _] _ _
  go_enter Tryd.func37, Tryd.ntmps37
  go_wp2_with (first | (go_at_call 10; refine (Size_any ⟨s, l, t, c, d⟩ _).mono ?_; rw [HZ.out]; rintro e w1 ⟨rfl, hb1⟩; obtain ⟨hc1, hf1, hz1⟩ := bcell hb1 (size_alloc1 _ _); have HB1 := hid hb1; clear hb1) | (go_at_call 41; refine (within_any _ _ _ _).mono ?_; rintro e w' ⟨rfl, rfl⟩) | (go_at_call 44; refine (HFi.out _).mono ?_; rintro e w2 ⟨rfl, hb2⟩; have HB2 := hid hb2; obtain ⟨hc2, hf2, hz2⟩ := bcell hb2 rfl; clear hb2) | (go_at_call 45; refine (HK.out _).mono ?_; rintro e w' ⟨rfl, rfl⟩) | (go_at_call 46; refine (itoa_any _ (by omega) _).mono ?_; rintro e w' ⟨rfl, rfl⟩))
  go_ret
  refine ⟨?_, bthen (bthen (bnew (bid w) _) HB1.out) HB2.out⟩
  have e : nameL l.toNat 8 i p = kindL 8 p ++ (32 :: dd i) := by simp [nameL, kindL]
  show Ending.returned (.string _) = _
  rw [e]
  first
    | rfl
    | (congr 2; apply ByteArray.ext; simp)

/-- What a word is called, at its place. -/
theorem Name_at (m : PM) (k i p : Nat) (w : World) (h : m.Ok) (hh : m.Has k i p) :
    Calls Tryd.prog 37 #[m.v, .int .i64 (m.loc k i p)] w fun e w' => e = .returned (.string ⟨(nameL m.l.toNat k i p).toArray⟩) ∧ Below w.heap.size w w' := by
  have hk := hh.kind
  have : k = 0 ∨ k = 1 ∨ k = 2 ∨ k = 3 ∨ k = 4 ∨ k = 5 ∨ k = 6 ∨ k = 7 ∨ k = 8 := by omega
  rcases this with rfl | rfl | rfl | rfl | rfl | rfl | rfl | rfl | rfl
  · exact Name_0 m i p w h hh
  · exact Name_1 m i p w h hh
  · exact Name_2 m i p w h hh
  · exact Name_3 m i p w h hh
  · exact Name_4 m i p w h hh
  · exact Name_5 m i p w h hh
  · exact Name_6 m i p w h hh
  · exact Name_7 m i p w h hh
  · exact Name_8 m i p w h hh

set_option maxHeartbeats 1000000 in
theorem Name_out (m : PM) (a : Int) (w : World) (h : inB a 0 (m.size - 1) = false) :
    Calls Tryd.prog 37 #[m.v, .int .i64 a] w fun e w' => e = .returned (.string ⟨([] : List UInt8).toArray⟩) ∧ Below w.heap.size w w' := by
  obtain ⟨s1, s2⟩ := m.size_range
  generalize hz : m.size = z at *
  have HZ := hid hz
  clear hz
  obtain ⟨s, l, t, c, d⟩ := m
  show Calls _ _ #[.agg #[.int .i64 s, .int .i64 l, .int .i64 t, .int .i64 c, .int .i64 d], _] _ _
  go_enter Tryd.func37, Tryd.ntmps37
  go_wp2_with (first | (go_at_call 10; refine (Size_any ⟨s, l, t, c, d⟩ _).mono ?_; rw [HZ.out]; rintro e w1 ⟨rfl, hb1⟩; obtain ⟨hc1, hf1, hz1⟩ := bcell hb1 (size_alloc1 _ _); have HB1 := hid hb1; clear hb1) | (go_at_call 41; refine (within_any _ _ _ _).mono ?_; rintro e w' ⟨rfl, rfl⟩))
  go_ret
  exact ⟨rfl, bthen (bnew (bid w) _) HB1.out⟩

end Go.Proofs.YtjekhjjighbfaaaDoor
