/-
  The document's own names are package place's.
-/
import Derived.Test.YtjekhjjighbfaaaDoorDec
namespace Go.Proofs.YtjekhjjighbfaaaDoor
open Go.RowKit

theorem tup_cells {m : PM} (h : m.Ok) {k i p : Nat} (hh : m.Has k i p) (A : Nat) (a : Nat) (ha : (a : Int) = m.loc k i p) (hA : a < A) :
    (m.recs A).getD (a * 4) 0 = (tupL m.l.toNat k i p).getD 0 0 ∧ (m.recs A).getD (a * 4 + 1) 0 = (tupL m.l.toNat k i p).getD 1 0 ∧ (m.recs A).getD (a * 4 + 2) 0 = (tupL m.l.toNat k i p).getD 2 0 ∧ (m.recs A).getD (a * 4 + 3) 0 = (tupL m.l.toNat k i p).getD 3 0 := by
  have ht := m.tup_at h hh
  rw [← ha] at ht
  refine ⟨?_, ?_, ?_, ?_⟩
  · rw [show a * 4 = a * 4 + 0 from rfl, recs_at m A a 0 hA (by decide), ht]
  · rw [recs_at m A a 1 hA (by decide), ht]
  · rw [recs_at m A a 2 hA (by decide), ht]
  · rw [recs_at m A a 3 hA (by decide), ht]

set_option maxHeartbeats 2000000 in
theorem refName_0 (m : PM) (i p a : Nat) (w : World) (h : m.Ok) (hh : m.Has 0 i p) (ha : (a : Int) = m.loc 0 i p) :
    Calls Tryd.prog 38 #[m.v, .int .i64 (a : Int)] w fun e w' => e = .returned (.string ⟨(nameL m.l.toNat 0 i p).toArray⟩) ∧ Below w.heap.size w w' := by
  have HP := hid (fun W => places_any m W h)
  obtain ⟨z1, z2⟩ := m.size_bounds h
  obtain ⟨_, _, g3, g4⟩ := m.loc_range h hh
  have haA : a < m.size.toNat := by omega
  have hc := tup_cells h hh m.size.toNat a ha haA
  rw [show tupL m.l.toNat 0 i p = [1, 0, 0, 0] from rfl] at hc
  have HC := hid hc
  clear hc
  have hi := hh.many
  obtain ⟨_, _, _, hb, _⟩ := m.bounds h 0 (by decide)
  have hi99 : i < 100 := by omega
  have HD1 := hid (Decimal_any 0 (by decide))
  have l1 := dd_len 0
  have hLL : m.l.toNat = m.l.toNat := rfl
  generalize hA : m.size.toNat = A at *
  have hA1 : A ≤ 314 := by omega
  clear z1 z2 g3 g4 hb hA ha hi
  generalize m.recs A = zs at *
  generalize hL : m.l.toNat = LL at *
  clear h hh hL
  obtain ⟨s, l, t, c, d⟩ := m
  have i1 : (0 : Int) ≤ (a : Int) := by omega
  have i2 : (a : Int) < (A : Int) := by omega
  show Calls _ _ #[.agg #[.int .i64 s, .int .i64 l, .int .i64 t, .int .i64 c, .int .i64 d], _] _ _
  go_enter Tryd.func38, Tryd.ntmps38
  go_wp2_with (first | (go_at_call 42; refine (HP.out _).mono ?_; rintro e w1 ⟨⟨g, cap, rfl, hr⟩, hb1⟩; have r0 := hr.cell (j := a * 4) (by omega); have r1 := hr.cell (j := a * 4 + 1) (by omega); have r2 := hr.cell (j := a * 4 + 2) (by omega); have r3 := hr.cell (j := a * 4 + 3) (by omega); rw [HC.out.1] at r0; rw [HC.out.2.1] at r1; rw [HC.out.2.2.1] at r2; rw [HC.out.2.2.2] at r3; have hgl := hr.lt.2; have hrm := hr.room; unfold maxLen at hrm; obtain ⟨q1, q2⟩ := hrm; have HR := hid hr; have HB1 := hid hb1; clear hr hb1) | (go_at_call 48; refine (HD1.out _).mono ?_; rintro e w2 ⟨rfl, hb2⟩; obtain ⟨hc2, hf2, hz2⟩ := bcell hb2 (size_alloc1 _ _); have hz9 : w1.heap.size < w2.heap.size := hz2; have HB2 := hid hb2; clear hb2))
  go_ret
  refine ⟨?_, bthen (bnew (bthen (bnew (bid w) _) HB1.out) _) HB2.out⟩
  first
    | rfl
    | (show Ending.returned (.string _) = _; simp [nameL, kindL, partL]; done)
    | (show Ending.returned (.string _) = _; simp only [nameL, kindL, partL]; congr 2; apply ByteArray.ext; simp; done)

set_option maxHeartbeats 2000000 in
theorem refName_1 (m : PM) (i p a : Nat) (w : World) (h : m.Ok) (hh : m.Has 1 i p) (ha : (a : Int) = m.loc 1 i p) :
    Calls Tryd.prog 38 #[m.v, .int .i64 (a : Int)] w fun e w' => e = .returned (.string ⟨(nameL m.l.toNat 1 i p).toArray⟩) ∧ Below w.heap.size w w' := by
  have HP := hid (fun W => places_any m W h)
  obtain ⟨z1, z2⟩ := m.size_bounds h
  obtain ⟨_, _, g3, g4⟩ := m.loc_range h hh
  have haA : a < m.size.toNat := by omega
  have hc := tup_cells h hh m.size.toNat a ha haA
  rw [show tupL m.l.toNat 1 i p = [2, 0, 0, 0] from rfl] at hc
  have HC := hid hc
  clear hc
  have hi := hh.many
  obtain ⟨_, _, _, hb, _⟩ := m.bounds h 1 (by decide)
  have hi99 : i < 100 := by omega
  have HD1 := hid (Decimal_any 0 (by decide))
  have l1 := dd_len 0
  have hLL : m.l.toNat = m.l.toNat := rfl
  generalize hA : m.size.toNat = A at *
  have hA1 : A ≤ 314 := by omega
  clear z1 z2 g3 g4 hb hA ha hi
  generalize m.recs A = zs at *
  generalize hL : m.l.toNat = LL at *
  clear h hh hL
  obtain ⟨s, l, t, c, d⟩ := m
  have i1 : (0 : Int) ≤ (a : Int) := by omega
  have i2 : (a : Int) < (A : Int) := by omega
  show Calls _ _ #[.agg #[.int .i64 s, .int .i64 l, .int .i64 t, .int .i64 c, .int .i64 d], _] _ _
  go_enter Tryd.func38, Tryd.ntmps38
  go_wp2_with (first | (go_at_call 42; refine (HP.out _).mono ?_; rintro e w1 ⟨⟨g, cap, rfl, hr⟩, hb1⟩; have r0 := hr.cell (j := a * 4) (by omega); have r1 := hr.cell (j := a * 4 + 1) (by omega); have r2 := hr.cell (j := a * 4 + 2) (by omega); have r3 := hr.cell (j := a * 4 + 3) (by omega); rw [HC.out.1] at r0; rw [HC.out.2.1] at r1; rw [HC.out.2.2.1] at r2; rw [HC.out.2.2.2] at r3; have hgl := hr.lt.2; have hrm := hr.room; unfold maxLen at hrm; obtain ⟨q1, q2⟩ := hrm; have HR := hid hr; have HB1 := hid hb1; clear hr hb1) | (go_at_call 48; refine (HD1.out _).mono ?_; rintro e w2 ⟨rfl, hb2⟩; obtain ⟨hc2, hf2, hz2⟩ := bcell hb2 (size_alloc1 _ _); have hz9 : w1.heap.size < w2.heap.size := hz2; have HB2 := hid hb2; clear hb2))
  go_ret
  refine ⟨?_, bthen (bnew (bthen (bnew (bid w) _) HB1.out) _) HB2.out⟩
  first
    | rfl
    | (show Ending.returned (.string _) = _; simp [nameL, kindL, partL]; done)
    | (show Ending.returned (.string _) = _; simp only [nameL, kindL, partL]; congr 2; apply ByteArray.ext; simp; done)

set_option maxHeartbeats 2000000 in
theorem refName_2 (m : PM) (i p a : Nat) (w : World) (h : m.Ok) (hh : m.Has 2 i p) (ha : (a : Int) = m.loc 2 i p) :
    Calls Tryd.prog 38 #[m.v, .int .i64 (a : Int)] w fun e w' => e = .returned (.string ⟨(nameL m.l.toNat 2 i p).toArray⟩) ∧ Below w.heap.size w w' := by
  have HP := hid (fun W => places_any m W h)
  obtain ⟨z1, z2⟩ := m.size_bounds h
  obtain ⟨_, _, g3, g4⟩ := m.loc_range h hh
  have haA : a < m.size.toNat := by omega
  have hc := tup_cells h hh m.size.toNat a ha haA
  rw [show tupL m.l.toNat 2 i p = [3, (i : Int), 0, 0] from rfl] at hc
  have HC := hid hc
  clear hc
  have hi := hh.many
  obtain ⟨_, _, _, hb, _⟩ := m.bounds h 2 (by decide)
  have hi99 : i < 100 := by omega
  have HD1 := hid (Decimal_any i hi99)
  have l1 := dd_len i
  have hLL : m.l.toNat = m.l.toNat := rfl
  generalize hA : m.size.toNat = A at *
  have hA1 : A ≤ 314 := by omega
  clear z1 z2 g3 g4 hb hA ha hi
  generalize m.recs A = zs at *
  generalize hL : m.l.toNat = LL at *
  clear h hh hL
  obtain ⟨s, l, t, c, d⟩ := m
  have i1 : (0 : Int) ≤ (a : Int) := by omega
  have i2 : (a : Int) < (A : Int) := by omega
  show Calls _ _ #[.agg #[.int .i64 s, .int .i64 l, .int .i64 t, .int .i64 c, .int .i64 d], _] _ _
  go_enter Tryd.func38, Tryd.ntmps38
  go_wp2_with (first | (go_at_call 42; refine (HP.out _).mono ?_; rintro e w1 ⟨⟨g, cap, rfl, hr⟩, hb1⟩; have r0 := hr.cell (j := a * 4) (by omega); have r1 := hr.cell (j := a * 4 + 1) (by omega); have r2 := hr.cell (j := a * 4 + 2) (by omega); have r3 := hr.cell (j := a * 4 + 3) (by omega); rw [HC.out.1] at r0; rw [HC.out.2.1] at r1; rw [HC.out.2.2.1] at r2; rw [HC.out.2.2.2] at r3; have hgl := hr.lt.2; have hrm := hr.room; unfold maxLen at hrm; obtain ⟨q1, q2⟩ := hrm; have HR := hid hr; have HB1 := hid hb1; clear hr hb1) | (go_at_call 48; refine (HD1.out _).mono ?_; rintro e w2 ⟨rfl, hb2⟩; obtain ⟨hc2, hf2, hz2⟩ := bcell hb2 (size_alloc1 _ _); have hz9 : w1.heap.size < w2.heap.size := hz2; have HB2 := hid hb2; clear hb2))
  go_ret
  refine ⟨?_, bthen (bnew (bthen (bnew (bid w) _) HB1.out) _) HB2.out⟩
  first
    | rfl
    | (show Ending.returned (.string _) = _; simp [nameL, kindL, partL]; done)
    | (show Ending.returned (.string _) = _; simp only [nameL, kindL, partL]; congr 2; apply ByteArray.ext; simp; done)

set_option maxHeartbeats 2000000 in
theorem refName_3_0 (m : PM) (i a : Nat) (w : World) (h : m.Ok) (hh : m.Has 3 i 0) (ha : (a : Int) = m.loc 3 i 0) :
    Calls Tryd.prog 38 #[m.v, .int .i64 (a : Int)] w fun e w' => e = .returned (.string ⟨(nameL m.l.toNat 3 i 0).toArray⟩) ∧ Below w.heap.size w w' := by
  have HP := hid (fun W => places_any m W h)
  obtain ⟨z1, z2⟩ := m.size_bounds h
  obtain ⟨_, _, g3, g4⟩ := m.loc_range h hh
  have haA : a < m.size.toNat := by omega
  have hc := tup_cells h hh m.size.toNat a ha haA
  rw [show tupL m.l.toNat 3 i 0 = [4, (i : Int), 0, 0] from rfl] at hc
  have HC := hid hc
  clear hc
  have hi := hh.many
  obtain ⟨_, _, _, hb, _⟩ := m.bounds h 3 (by decide)
  have hi99 : i < 100 := by omega
  have HD1 := hid (Decimal_any i hi99)
  have l1 := dd_len i
  have hLL : m.l.toNat = m.l.toNat := rfl
  generalize hA : m.size.toNat = A at *
  have hA1 : A ≤ 314 := by omega
  clear z1 z2 g3 g4 hb hA ha hi
  generalize m.recs A = zs at *
  generalize hL : m.l.toNat = LL at *
  clear h hh hL
  obtain ⟨s, l, t, c, d⟩ := m
  have i1 : (0 : Int) ≤ (a : Int) := by omega
  have i2 : (a : Int) < (A : Int) := by omega
  show Calls _ _ #[.agg #[.int .i64 s, .int .i64 l, .int .i64 t, .int .i64 c, .int .i64 d], _] _ _
  go_enter Tryd.func38, Tryd.ntmps38
  go_wp2_with (first | (go_at_call 42; refine (HP.out _).mono ?_; rintro e w1 ⟨⟨g, cap, rfl, hr⟩, hb1⟩; have r0 := hr.cell (j := a * 4) (by omega); have r1 := hr.cell (j := a * 4 + 1) (by omega); have r2 := hr.cell (j := a * 4 + 2) (by omega); have r3 := hr.cell (j := a * 4 + 3) (by omega); rw [HC.out.1] at r0; rw [HC.out.2.1] at r1; rw [HC.out.2.2.1] at r2; rw [HC.out.2.2.2] at r3; have hgl := hr.lt.2; have hrm := hr.room; unfold maxLen at hrm; obtain ⟨q1, q2⟩ := hrm; have HR := hid hr; have HB1 := hid hb1; clear hr hb1) | (go_at_call 48; refine (HD1.out _).mono ?_; rintro e w2 ⟨rfl, hb2⟩; obtain ⟨hc2, hf2, hz2⟩ := bcell hb2 (size_alloc1 _ _); have hz9 : w1.heap.size < w2.heap.size := hz2; have HB2 := hid hb2; clear hb2))
  go_ret
  refine ⟨?_, bnew (bthen (bnew (bthen (bnew (bid w) _) HB1.out) _) HB2.out) _⟩
  first
    | rfl
    | (show Ending.returned (.string _) = _; simp [nameL, kindL, partL]; done)
    | (show Ending.returned (.string _) = _; simp only [nameL, kindL, partL]; congr 2; apply ByteArray.ext; simp; done)

set_option maxHeartbeats 2000000 in
theorem refName_3_1 (m : PM) (i a : Nat) (w : World) (h : m.Ok) (hh : m.Has 3 i 1) (ha : (a : Int) = m.loc 3 i 1) :
    Calls Tryd.prog 38 #[m.v, .int .i64 (a : Int)] w fun e w' => e = .returned (.string ⟨(nameL m.l.toNat 3 i 1).toArray⟩) ∧ Below w.heap.size w w' := by
  have HP := hid (fun W => places_any m W h)
  obtain ⟨z1, z2⟩ := m.size_bounds h
  obtain ⟨_, _, g3, g4⟩ := m.loc_range h hh
  have haA : a < m.size.toNat := by omega
  have hc := tup_cells h hh m.size.toNat a ha haA
  rw [show tupL m.l.toNat 3 i 1 = [4, (i : Int), 0, 1] from rfl] at hc
  have HC := hid hc
  clear hc
  have hi := hh.many
  obtain ⟨_, _, _, hb, _⟩ := m.bounds h 3 (by decide)
  have hi99 : i < 100 := by omega
  have HD1 := hid (Decimal_any i hi99)
  have l1 := dd_len i
  have hLL : m.l.toNat = m.l.toNat := rfl
  generalize hA : m.size.toNat = A at *
  have hA1 : A ≤ 314 := by omega
  clear z1 z2 g3 g4 hb hA ha hi
  generalize m.recs A = zs at *
  generalize hL : m.l.toNat = LL at *
  clear h hh hL
  obtain ⟨s, l, t, c, d⟩ := m
  have i1 : (0 : Int) ≤ (a : Int) := by omega
  have i2 : (a : Int) < (A : Int) := by omega
  show Calls _ _ #[.agg #[.int .i64 s, .int .i64 l, .int .i64 t, .int .i64 c, .int .i64 d], _] _ _
  go_enter Tryd.func38, Tryd.ntmps38
  go_wp2_with (first | (go_at_call 42; refine (HP.out _).mono ?_; rintro e w1 ⟨⟨g, cap, rfl, hr⟩, hb1⟩; have r0 := hr.cell (j := a * 4) (by omega); have r1 := hr.cell (j := a * 4 + 1) (by omega); have r2 := hr.cell (j := a * 4 + 2) (by omega); have r3 := hr.cell (j := a * 4 + 3) (by omega); rw [HC.out.1] at r0; rw [HC.out.2.1] at r1; rw [HC.out.2.2.1] at r2; rw [HC.out.2.2.2] at r3; have hgl := hr.lt.2; have hrm := hr.room; unfold maxLen at hrm; obtain ⟨q1, q2⟩ := hrm; have HR := hid hr; have HB1 := hid hb1; clear hr hb1) | (go_at_call 48; refine (HD1.out _).mono ?_; rintro e w2 ⟨rfl, hb2⟩; obtain ⟨hc2, hf2, hz2⟩ := bcell hb2 (size_alloc1 _ _); have hz9 : w1.heap.size < w2.heap.size := hz2; have HB2 := hid hb2; clear hb2))
  go_ret
  refine ⟨?_, bnew (bthen (bnew (bthen (bnew (bid w) _) HB1.out) _) HB2.out) _⟩
  first
    | rfl
    | (show Ending.returned (.string _) = _; simp [nameL, kindL, partL]; done)
    | (show Ending.returned (.string _) = _; simp only [nameL, kindL, partL]; congr 2; apply ByteArray.ext; simp; done)

set_option maxHeartbeats 2000000 in
theorem refName_3_2 (m : PM) (i a : Nat) (w : World) (h : m.Ok) (hh : m.Has 3 i 2) (ha : (a : Int) = m.loc 3 i 2) :
    Calls Tryd.prog 38 #[m.v, .int .i64 (a : Int)] w fun e w' => e = .returned (.string ⟨(nameL m.l.toNat 3 i 2).toArray⟩) ∧ Below w.heap.size w w' := by
  have HP := hid (fun W => places_any m W h)
  obtain ⟨z1, z2⟩ := m.size_bounds h
  obtain ⟨_, _, g3, g4⟩ := m.loc_range h hh
  have haA : a < m.size.toNat := by omega
  have hc := tup_cells h hh m.size.toNat a ha haA
  rw [show tupL m.l.toNat 3 i 2 = [4, (i : Int), 0, 2] from rfl] at hc
  have HC := hid hc
  clear hc
  have hi := hh.many
  obtain ⟨_, _, _, hb, _⟩ := m.bounds h 3 (by decide)
  have hi99 : i < 100 := by omega
  have HD1 := hid (Decimal_any i hi99)
  have l1 := dd_len i
  have hLL : m.l.toNat = m.l.toNat := rfl
  generalize hA : m.size.toNat = A at *
  have hA1 : A ≤ 314 := by omega
  clear z1 z2 g3 g4 hb hA ha hi
  generalize m.recs A = zs at *
  generalize hL : m.l.toNat = LL at *
  clear h hh hL
  obtain ⟨s, l, t, c, d⟩ := m
  have i1 : (0 : Int) ≤ (a : Int) := by omega
  have i2 : (a : Int) < (A : Int) := by omega
  show Calls _ _ #[.agg #[.int .i64 s, .int .i64 l, .int .i64 t, .int .i64 c, .int .i64 d], _] _ _
  go_enter Tryd.func38, Tryd.ntmps38
  go_wp2_with (first | (go_at_call 42; refine (HP.out _).mono ?_; rintro e w1 ⟨⟨g, cap, rfl, hr⟩, hb1⟩; have r0 := hr.cell (j := a * 4) (by omega); have r1 := hr.cell (j := a * 4 + 1) (by omega); have r2 := hr.cell (j := a * 4 + 2) (by omega); have r3 := hr.cell (j := a * 4 + 3) (by omega); rw [HC.out.1] at r0; rw [HC.out.2.1] at r1; rw [HC.out.2.2.1] at r2; rw [HC.out.2.2.2] at r3; have hgl := hr.lt.2; have hrm := hr.room; unfold maxLen at hrm; obtain ⟨q1, q2⟩ := hrm; have HR := hid hr; have HB1 := hid hb1; clear hr hb1) | (go_at_call 48; refine (HD1.out _).mono ?_; rintro e w2 ⟨rfl, hb2⟩; obtain ⟨hc2, hf2, hz2⟩ := bcell hb2 (size_alloc1 _ _); have hz9 : w1.heap.size < w2.heap.size := hz2; have HB2 := hid hb2; clear hb2))
  go_ret
  refine ⟨?_, bnew (bthen (bnew (bthen (bnew (bid w) _) HB1.out) _) HB2.out) _⟩
  first
    | rfl
    | (show Ending.returned (.string _) = _; simp [nameL, kindL, partL]; done)
    | (show Ending.returned (.string _) = _; simp only [nameL, kindL, partL]; congr 2; apply ByteArray.ext; simp; done)

set_option maxHeartbeats 2000000 in
theorem refName_3_3 (m : PM) (i a : Nat) (w : World) (h : m.Ok) (hh : m.Has 3 i 3) (ha : (a : Int) = m.loc 3 i 3) :
    Calls Tryd.prog 38 #[m.v, .int .i64 (a : Int)] w fun e w' => e = .returned (.string ⟨(nameL m.l.toNat 3 i 3).toArray⟩) ∧ Below w.heap.size w w' := by
  have HP := hid (fun W => places_any m W h)
  obtain ⟨z1, z2⟩ := m.size_bounds h
  obtain ⟨_, _, g3, g4⟩ := m.loc_range h hh
  have haA : a < m.size.toNat := by omega
  have hc := tup_cells h hh m.size.toNat a ha haA
  rw [show tupL m.l.toNat 3 i 3 = [4, (i : Int), 0, 3] from rfl] at hc
  have HC := hid hc
  clear hc
  have hi := hh.many
  obtain ⟨_, _, _, hb, _⟩ := m.bounds h 3 (by decide)
  have hi99 : i < 100 := by omega
  have HD1 := hid (Decimal_any i hi99)
  have l1 := dd_len i
  have hLL : m.l.toNat = m.l.toNat := rfl
  generalize hA : m.size.toNat = A at *
  have hA1 : A ≤ 314 := by omega
  clear z1 z2 g3 g4 hb hA ha hi
  generalize m.recs A = zs at *
  generalize hL : m.l.toNat = LL at *
  clear h hh hL
  obtain ⟨s, l, t, c, d⟩ := m
  have i1 : (0 : Int) ≤ (a : Int) := by omega
  have i2 : (a : Int) < (A : Int) := by omega
  show Calls _ _ #[.agg #[.int .i64 s, .int .i64 l, .int .i64 t, .int .i64 c, .int .i64 d], _] _ _
  go_enter Tryd.func38, Tryd.ntmps38
  go_wp2_with (first | (go_at_call 42; refine (HP.out _).mono ?_; rintro e w1 ⟨⟨g, cap, rfl, hr⟩, hb1⟩; have r0 := hr.cell (j := a * 4) (by omega); have r1 := hr.cell (j := a * 4 + 1) (by omega); have r2 := hr.cell (j := a * 4 + 2) (by omega); have r3 := hr.cell (j := a * 4 + 3) (by omega); rw [HC.out.1] at r0; rw [HC.out.2.1] at r1; rw [HC.out.2.2.1] at r2; rw [HC.out.2.2.2] at r3; have hgl := hr.lt.2; have hrm := hr.room; unfold maxLen at hrm; obtain ⟨q1, q2⟩ := hrm; have HR := hid hr; have HB1 := hid hb1; clear hr hb1) | (go_at_call 48; refine (HD1.out _).mono ?_; rintro e w2 ⟨rfl, hb2⟩; obtain ⟨hc2, hf2, hz2⟩ := bcell hb2 (size_alloc1 _ _); have hz9 : w1.heap.size < w2.heap.size := hz2; have HB2 := hid hb2; clear hb2))
  go_ret
  refine ⟨?_, bnew (bthen (bnew (bthen (bnew (bid w) _) HB1.out) _) HB2.out) _⟩
  first
    | rfl
    | (show Ending.returned (.string _) = _; simp [nameL, kindL, partL]; done)
    | (show Ending.returned (.string _) = _; simp only [nameL, kindL, partL]; congr 2; apply ByteArray.ext; simp; done)

set_option maxHeartbeats 2000000 in
theorem refName_3_4 (m : PM) (i a : Nat) (w : World) (h : m.Ok) (hh : m.Has 3 i 4) (ha : (a : Int) = m.loc 3 i 4) :
    Calls Tryd.prog 38 #[m.v, .int .i64 (a : Int)] w fun e w' => e = .returned (.string ⟨(nameL m.l.toNat 3 i 4).toArray⟩) ∧ Below w.heap.size w w' := by
  have HP := hid (fun W => places_any m W h)
  obtain ⟨z1, z2⟩ := m.size_bounds h
  obtain ⟨_, _, g3, g4⟩ := m.loc_range h hh
  have haA : a < m.size.toNat := by omega
  have hc := tup_cells h hh m.size.toNat a ha haA
  rw [show tupL m.l.toNat 3 i 4 = [4, (i : Int), 0, 4] from rfl] at hc
  have HC := hid hc
  clear hc
  have hi := hh.many
  obtain ⟨_, _, _, hb, _⟩ := m.bounds h 3 (by decide)
  have hi99 : i < 100 := by omega
  have HD1 := hid (Decimal_any i hi99)
  have l1 := dd_len i
  have hLL : m.l.toNat = m.l.toNat := rfl
  generalize hA : m.size.toNat = A at *
  have hA1 : A ≤ 314 := by omega
  clear z1 z2 g3 g4 hb hA ha hi
  generalize m.recs A = zs at *
  generalize hL : m.l.toNat = LL at *
  clear h hh hL
  obtain ⟨s, l, t, c, d⟩ := m
  have i1 : (0 : Int) ≤ (a : Int) := by omega
  have i2 : (a : Int) < (A : Int) := by omega
  show Calls _ _ #[.agg #[.int .i64 s, .int .i64 l, .int .i64 t, .int .i64 c, .int .i64 d], _] _ _
  go_enter Tryd.func38, Tryd.ntmps38
  go_wp2_with (first | (go_at_call 42; refine (HP.out _).mono ?_; rintro e w1 ⟨⟨g, cap, rfl, hr⟩, hb1⟩; have r0 := hr.cell (j := a * 4) (by omega); have r1 := hr.cell (j := a * 4 + 1) (by omega); have r2 := hr.cell (j := a * 4 + 2) (by omega); have r3 := hr.cell (j := a * 4 + 3) (by omega); rw [HC.out.1] at r0; rw [HC.out.2.1] at r1; rw [HC.out.2.2.1] at r2; rw [HC.out.2.2.2] at r3; have hgl := hr.lt.2; have hrm := hr.room; unfold maxLen at hrm; obtain ⟨q1, q2⟩ := hrm; have HR := hid hr; have HB1 := hid hb1; clear hr hb1) | (go_at_call 48; refine (HD1.out _).mono ?_; rintro e w2 ⟨rfl, hb2⟩; obtain ⟨hc2, hf2, hz2⟩ := bcell hb2 (size_alloc1 _ _); have hz9 : w1.heap.size < w2.heap.size := hz2; have HB2 := hid hb2; clear hb2))
  go_ret
  refine ⟨?_, bnew (bthen (bnew (bthen (bnew (bid w) _) HB1.out) _) HB2.out) _⟩
  first
    | rfl
    | (show Ending.returned (.string _) = _; simp [nameL, kindL, partL]; done)
    | (show Ending.returned (.string _) = _; simp only [nameL, kindL, partL]; congr 2; apply ByteArray.ext; simp; done)

set_option maxHeartbeats 2000000 in
theorem refName_3_5 (m : PM) (i a : Nat) (w : World) (h : m.Ok) (hh : m.Has 3 i 5) (ha : (a : Int) = m.loc 3 i 5) :
    Calls Tryd.prog 38 #[m.v, .int .i64 (a : Int)] w fun e w' => e = .returned (.string ⟨(nameL m.l.toNat 3 i 5).toArray⟩) ∧ Below w.heap.size w w' := by
  have HP := hid (fun W => places_any m W h)
  obtain ⟨z1, z2⟩ := m.size_bounds h
  obtain ⟨_, _, g3, g4⟩ := m.loc_range h hh
  have haA : a < m.size.toNat := by omega
  have hc := tup_cells h hh m.size.toNat a ha haA
  rw [show tupL m.l.toNat 3 i 5 = [4, (i : Int), 0, 5] from rfl] at hc
  have HC := hid hc
  clear hc
  have hi := hh.many
  obtain ⟨_, _, _, hb, _⟩ := m.bounds h 3 (by decide)
  have hi99 : i < 100 := by omega
  have HD1 := hid (Decimal_any i hi99)
  have l1 := dd_len i
  have hLL : m.l.toNat = m.l.toNat := rfl
  generalize hA : m.size.toNat = A at *
  have hA1 : A ≤ 314 := by omega
  clear z1 z2 g3 g4 hb hA ha hi
  generalize m.recs A = zs at *
  generalize hL : m.l.toNat = LL at *
  clear h hh hL
  obtain ⟨s, l, t, c, d⟩ := m
  have i1 : (0 : Int) ≤ (a : Int) := by omega
  have i2 : (a : Int) < (A : Int) := by omega
  show Calls _ _ #[.agg #[.int .i64 s, .int .i64 l, .int .i64 t, .int .i64 c, .int .i64 d], _] _ _
  go_enter Tryd.func38, Tryd.ntmps38
  go_wp2_with (first | (go_at_call 42; refine (HP.out _).mono ?_; rintro e w1 ⟨⟨g, cap, rfl, hr⟩, hb1⟩; have r0 := hr.cell (j := a * 4) (by omega); have r1 := hr.cell (j := a * 4 + 1) (by omega); have r2 := hr.cell (j := a * 4 + 2) (by omega); have r3 := hr.cell (j := a * 4 + 3) (by omega); rw [HC.out.1] at r0; rw [HC.out.2.1] at r1; rw [HC.out.2.2.1] at r2; rw [HC.out.2.2.2] at r3; have hgl := hr.lt.2; have hrm := hr.room; unfold maxLen at hrm; obtain ⟨q1, q2⟩ := hrm; have HR := hid hr; have HB1 := hid hb1; clear hr hb1) | (go_at_call 48; refine (HD1.out _).mono ?_; rintro e w2 ⟨rfl, hb2⟩; obtain ⟨hc2, hf2, hz2⟩ := bcell hb2 (size_alloc1 _ _); have hz9 : w1.heap.size < w2.heap.size := hz2; have HB2 := hid hb2; clear hb2))
  go_ret
  refine ⟨?_, bnew (bthen (bnew (bthen (bnew (bid w) _) HB1.out) _) HB2.out) _⟩
  first
    | rfl
    | (show Ending.returned (.string _) = _; simp [nameL, kindL, partL]; done)
    | (show Ending.returned (.string _) = _; simp only [nameL, kindL, partL]; congr 2; apply ByteArray.ext; simp; done)

set_option maxHeartbeats 2000000 in
theorem refName_4_0 (m : PM) (i a : Nat) (w : World) (h : m.Ok) (hh : m.Has 4 i 0) (ha : (a : Int) = m.loc 4 i 0) :
    Calls Tryd.prog 38 #[m.v, .int .i64 (a : Int)] w fun e w' => e = .returned (.string ⟨(nameL m.l.toNat 4 i 0).toArray⟩) ∧ Below w.heap.size w w' := by
  have HP := hid (fun W => places_any m W h)
  obtain ⟨z1, z2⟩ := m.size_bounds h
  obtain ⟨_, _, g3, g4⟩ := m.loc_range h hh
  have haA : a < m.size.toNat := by omega
  have hc := tup_cells h hh m.size.toNat a ha haA
  rw [show tupL m.l.toNat 4 i 0 = [5, (i : Int), 0, 0] from rfl] at hc
  have HC := hid hc
  clear hc
  have hi := hh.many
  obtain ⟨_, _, _, hb, _⟩ := m.bounds h 4 (by decide)
  have hi99 : i < 100 := by omega
  have HD1 := hid (Decimal_any i hi99)
  have l1 := dd_len i
  have hLL : m.l.toNat = m.l.toNat := rfl
  generalize hA : m.size.toNat = A at *
  have hA1 : A ≤ 314 := by omega
  clear z1 z2 g3 g4 hb hA ha hi
  generalize m.recs A = zs at *
  generalize hL : m.l.toNat = LL at *
  clear h hh hL
  obtain ⟨s, l, t, c, d⟩ := m
  have i1 : (0 : Int) ≤ (a : Int) := by omega
  have i2 : (a : Int) < (A : Int) := by omega
  show Calls _ _ #[.agg #[.int .i64 s, .int .i64 l, .int .i64 t, .int .i64 c, .int .i64 d], _] _ _
  go_enter Tryd.func38, Tryd.ntmps38
  go_wp2_with (first | (go_at_call 42; refine (HP.out _).mono ?_; rintro e w1 ⟨⟨g, cap, rfl, hr⟩, hb1⟩; have r0 := hr.cell (j := a * 4) (by omega); have r1 := hr.cell (j := a * 4 + 1) (by omega); have r2 := hr.cell (j := a * 4 + 2) (by omega); have r3 := hr.cell (j := a * 4 + 3) (by omega); rw [HC.out.1] at r0; rw [HC.out.2.1] at r1; rw [HC.out.2.2.1] at r2; rw [HC.out.2.2.2] at r3; have hgl := hr.lt.2; have hrm := hr.room; unfold maxLen at hrm; obtain ⟨q1, q2⟩ := hrm; have HR := hid hr; have HB1 := hid hb1; clear hr hb1) | (go_at_call 48; refine (HD1.out _).mono ?_; rintro e w2 ⟨rfl, hb2⟩; obtain ⟨hc2, hf2, hz2⟩ := bcell hb2 (size_alloc1 _ _); have hz9 : w1.heap.size < w2.heap.size := hz2; have HB2 := hid hb2; clear hb2))
  go_ret
  refine ⟨?_, bnew (bthen (bnew (bthen (bnew (bid w) _) HB1.out) _) HB2.out) _⟩
  first
    | rfl
    | (show Ending.returned (.string _) = _; simp [nameL, kindL, partL]; done)
    | (show Ending.returned (.string _) = _; simp only [nameL, kindL, partL]; congr 2; apply ByteArray.ext; simp; done)

set_option maxHeartbeats 2000000 in
theorem refName_4_1 (m : PM) (i a : Nat) (w : World) (h : m.Ok) (hh : m.Has 4 i 1) (ha : (a : Int) = m.loc 4 i 1) :
    Calls Tryd.prog 38 #[m.v, .int .i64 (a : Int)] w fun e w' => e = .returned (.string ⟨(nameL m.l.toNat 4 i 1).toArray⟩) ∧ Below w.heap.size w w' := by
  have HP := hid (fun W => places_any m W h)
  obtain ⟨z1, z2⟩ := m.size_bounds h
  obtain ⟨_, _, g3, g4⟩ := m.loc_range h hh
  have haA : a < m.size.toNat := by omega
  have hc := tup_cells h hh m.size.toNat a ha haA
  rw [show tupL m.l.toNat 4 i 1 = [5, (i : Int), 0, 1] from rfl] at hc
  have HC := hid hc
  clear hc
  have hi := hh.many
  obtain ⟨_, _, _, hb, _⟩ := m.bounds h 4 (by decide)
  have hi99 : i < 100 := by omega
  have HD1 := hid (Decimal_any i hi99)
  have l1 := dd_len i
  have hLL : m.l.toNat = m.l.toNat := rfl
  generalize hA : m.size.toNat = A at *
  have hA1 : A ≤ 314 := by omega
  clear z1 z2 g3 g4 hb hA ha hi
  generalize m.recs A = zs at *
  generalize hL : m.l.toNat = LL at *
  clear h hh hL
  obtain ⟨s, l, t, c, d⟩ := m
  have i1 : (0 : Int) ≤ (a : Int) := by omega
  have i2 : (a : Int) < (A : Int) := by omega
  show Calls _ _ #[.agg #[.int .i64 s, .int .i64 l, .int .i64 t, .int .i64 c, .int .i64 d], _] _ _
  go_enter Tryd.func38, Tryd.ntmps38
  go_wp2_with (first | (go_at_call 42; refine (HP.out _).mono ?_; rintro e w1 ⟨⟨g, cap, rfl, hr⟩, hb1⟩; have r0 := hr.cell (j := a * 4) (by omega); have r1 := hr.cell (j := a * 4 + 1) (by omega); have r2 := hr.cell (j := a * 4 + 2) (by omega); have r3 := hr.cell (j := a * 4 + 3) (by omega); rw [HC.out.1] at r0; rw [HC.out.2.1] at r1; rw [HC.out.2.2.1] at r2; rw [HC.out.2.2.2] at r3; have hgl := hr.lt.2; have hrm := hr.room; unfold maxLen at hrm; obtain ⟨q1, q2⟩ := hrm; have HR := hid hr; have HB1 := hid hb1; clear hr hb1) | (go_at_call 48; refine (HD1.out _).mono ?_; rintro e w2 ⟨rfl, hb2⟩; obtain ⟨hc2, hf2, hz2⟩ := bcell hb2 (size_alloc1 _ _); have hz9 : w1.heap.size < w2.heap.size := hz2; have HB2 := hid hb2; clear hb2))
  go_ret
  refine ⟨?_, bnew (bthen (bnew (bthen (bnew (bid w) _) HB1.out) _) HB2.out) _⟩
  first
    | rfl
    | (show Ending.returned (.string _) = _; simp [nameL, kindL, partL]; done)
    | (show Ending.returned (.string _) = _; simp only [nameL, kindL, partL]; congr 2; apply ByteArray.ext; simp; done)

set_option maxHeartbeats 2000000 in
theorem refName_6 (m : PM) (i p a : Nat) (w : World) (h : m.Ok) (hh : m.Has 6 i p) (ha : (a : Int) = m.loc 6 i p) :
    Calls Tryd.prog 38 #[m.v, .int .i64 (a : Int)] w fun e w' => e = .returned (.string ⟨(nameL m.l.toNat 6 i p).toArray⟩) ∧ Below w.heap.size w w' := by
  have HP := hid (fun W => places_any m W h)
  obtain ⟨z1, z2⟩ := m.size_bounds h
  obtain ⟨_, _, g3, g4⟩ := m.loc_range h hh
  have haA : a < m.size.toNat := by omega
  have hc := tup_cells h hh m.size.toNat a ha haA
  rw [show tupL m.l.toNat 6 i p = [7, (i : Int), 0, 0] from rfl] at hc
  have HC := hid hc
  clear hc
  have hi := hh.many
  obtain ⟨_, _, _, hb, _⟩ := m.bounds h 6 (by decide)
  have hi99 : i < 100 := by omega
  have HD1 := hid (Decimal_any i hi99)
  have l1 := dd_len i
  have hLL : m.l.toNat = m.l.toNat := rfl
  generalize hA : m.size.toNat = A at *
  have hA1 : A ≤ 314 := by omega
  clear z1 z2 g3 g4 hb hA ha hi
  generalize m.recs A = zs at *
  generalize hL : m.l.toNat = LL at *
  clear h hh hL
  obtain ⟨s, l, t, c, d⟩ := m
  have i1 : (0 : Int) ≤ (a : Int) := by omega
  have i2 : (a : Int) < (A : Int) := by omega
  show Calls _ _ #[.agg #[.int .i64 s, .int .i64 l, .int .i64 t, .int .i64 c, .int .i64 d], _] _ _
  go_enter Tryd.func38, Tryd.ntmps38
  go_wp2_with (first | (go_at_call 42; refine (HP.out _).mono ?_; rintro e w1 ⟨⟨g, cap, rfl, hr⟩, hb1⟩; have r0 := hr.cell (j := a * 4) (by omega); have r1 := hr.cell (j := a * 4 + 1) (by omega); have r2 := hr.cell (j := a * 4 + 2) (by omega); have r3 := hr.cell (j := a * 4 + 3) (by omega); rw [HC.out.1] at r0; rw [HC.out.2.1] at r1; rw [HC.out.2.2.1] at r2; rw [HC.out.2.2.2] at r3; have hgl := hr.lt.2; have hrm := hr.room; unfold maxLen at hrm; obtain ⟨q1, q2⟩ := hrm; have HR := hid hr; have HB1 := hid hb1; clear hr hb1) | (go_at_call 48; refine (HD1.out _).mono ?_; rintro e w2 ⟨rfl, hb2⟩; obtain ⟨hc2, hf2, hz2⟩ := bcell hb2 (size_alloc1 _ _); have hz9 : w1.heap.size < w2.heap.size := hz2; have HB2 := hid hb2; clear hb2))
  go_ret
  refine ⟨?_, bthen (bnew (bthen (bnew (bid w) _) HB1.out) _) HB2.out⟩
  first
    | rfl
    | (show Ending.returned (.string _) = _; simp [nameL, kindL, partL]; done)
    | (show Ending.returned (.string _) = _; simp only [nameL, kindL, partL]; congr 2; apply ByteArray.ext; simp; done)

set_option maxHeartbeats 2000000 in
theorem refName_7_0 (m : PM) (i a : Nat) (w : World) (h : m.Ok) (hh : m.Has 7 i 0) (ha : (a : Int) = m.loc 7 i 0) :
    Calls Tryd.prog 38 #[m.v, .int .i64 (a : Int)] w fun e w' => e = .returned (.string ⟨(nameL m.l.toNat 7 i 0).toArray⟩) ∧ Below w.heap.size w w' := by
  have HP := hid (fun W => places_any m W h)
  obtain ⟨z1, z2⟩ := m.size_bounds h
  obtain ⟨_, _, g3, g4⟩ := m.loc_range h hh
  have haA : a < m.size.toNat := by omega
  have hc := tup_cells h hh m.size.toNat a ha haA
  rw [show tupL m.l.toNat 7 i 0 = [8, (i : Int), 0, 0] from rfl] at hc
  have HC := hid hc
  clear hc
  have hi := hh.many
  obtain ⟨_, _, _, hb, _⟩ := m.bounds h 7 (by decide)
  have hi99 : i < 100 := by omega
  have HD1 := hid (Decimal_any i hi99)
  have l1 := dd_len i
  have hLL : m.l.toNat = m.l.toNat := rfl
  generalize hA : m.size.toNat = A at *
  have hA1 : A ≤ 314 := by omega
  clear z1 z2 g3 g4 hb hA ha hi
  generalize m.recs A = zs at *
  generalize hL : m.l.toNat = LL at *
  clear h hh hL
  obtain ⟨s, l, t, c, d⟩ := m
  have i1 : (0 : Int) ≤ (a : Int) := by omega
  have i2 : (a : Int) < (A : Int) := by omega
  show Calls _ _ #[.agg #[.int .i64 s, .int .i64 l, .int .i64 t, .int .i64 c, .int .i64 d], _] _ _
  go_enter Tryd.func38, Tryd.ntmps38
  go_wp2_with (first | (go_at_call 42; refine (HP.out _).mono ?_; rintro e w1 ⟨⟨g, cap, rfl, hr⟩, hb1⟩; have r0 := hr.cell (j := a * 4) (by omega); have r1 := hr.cell (j := a * 4 + 1) (by omega); have r2 := hr.cell (j := a * 4 + 2) (by omega); have r3 := hr.cell (j := a * 4 + 3) (by omega); rw [HC.out.1] at r0; rw [HC.out.2.1] at r1; rw [HC.out.2.2.1] at r2; rw [HC.out.2.2.2] at r3; have hgl := hr.lt.2; have hrm := hr.room; unfold maxLen at hrm; obtain ⟨q1, q2⟩ := hrm; have HR := hid hr; have HB1 := hid hb1; clear hr hb1) | (go_at_call 48; refine (HD1.out _).mono ?_; rintro e w2 ⟨rfl, hb2⟩; obtain ⟨hc2, hf2, hz2⟩ := bcell hb2 (size_alloc1 _ _); have hz9 : w1.heap.size < w2.heap.size := hz2; have HB2 := hid hb2; clear hb2))
  go_ret
  refine ⟨?_, bnew (bthen (bnew (bthen (bnew (bid w) _) HB1.out) _) HB2.out) _⟩
  first
    | rfl
    | (show Ending.returned (.string _) = _; simp [nameL, kindL, partL]; done)
    | (show Ending.returned (.string _) = _; simp only [nameL, kindL, partL]; congr 2; apply ByteArray.ext; simp; done)

set_option maxHeartbeats 2000000 in
theorem refName_7_1 (m : PM) (i a : Nat) (w : World) (h : m.Ok) (hh : m.Has 7 i 1) (ha : (a : Int) = m.loc 7 i 1) :
    Calls Tryd.prog 38 #[m.v, .int .i64 (a : Int)] w fun e w' => e = .returned (.string ⟨(nameL m.l.toNat 7 i 1).toArray⟩) ∧ Below w.heap.size w w' := by
  have HP := hid (fun W => places_any m W h)
  obtain ⟨z1, z2⟩ := m.size_bounds h
  obtain ⟨_, _, g3, g4⟩ := m.loc_range h hh
  have haA : a < m.size.toNat := by omega
  have hc := tup_cells h hh m.size.toNat a ha haA
  rw [show tupL m.l.toNat 7 i 1 = [8, (i : Int), 0, 1] from rfl] at hc
  have HC := hid hc
  clear hc
  have hi := hh.many
  obtain ⟨_, _, _, hb, _⟩ := m.bounds h 7 (by decide)
  have hi99 : i < 100 := by omega
  have HD1 := hid (Decimal_any i hi99)
  have l1 := dd_len i
  have hLL : m.l.toNat = m.l.toNat := rfl
  generalize hA : m.size.toNat = A at *
  have hA1 : A ≤ 314 := by omega
  clear z1 z2 g3 g4 hb hA ha hi
  generalize m.recs A = zs at *
  generalize hL : m.l.toNat = LL at *
  clear h hh hL
  obtain ⟨s, l, t, c, d⟩ := m
  have i1 : (0 : Int) ≤ (a : Int) := by omega
  have i2 : (a : Int) < (A : Int) := by omega
  show Calls _ _ #[.agg #[.int .i64 s, .int .i64 l, .int .i64 t, .int .i64 c, .int .i64 d], _] _ _
  go_enter Tryd.func38, Tryd.ntmps38
  go_wp2_with (first | (go_at_call 42; refine (HP.out _).mono ?_; rintro e w1 ⟨⟨g, cap, rfl, hr⟩, hb1⟩; have r0 := hr.cell (j := a * 4) (by omega); have r1 := hr.cell (j := a * 4 + 1) (by omega); have r2 := hr.cell (j := a * 4 + 2) (by omega); have r3 := hr.cell (j := a * 4 + 3) (by omega); rw [HC.out.1] at r0; rw [HC.out.2.1] at r1; rw [HC.out.2.2.1] at r2; rw [HC.out.2.2.2] at r3; have hgl := hr.lt.2; have hrm := hr.room; unfold maxLen at hrm; obtain ⟨q1, q2⟩ := hrm; have HR := hid hr; have HB1 := hid hb1; clear hr hb1) | (go_at_call 48; refine (HD1.out _).mono ?_; rintro e w2 ⟨rfl, hb2⟩; obtain ⟨hc2, hf2, hz2⟩ := bcell hb2 (size_alloc1 _ _); have hz9 : w1.heap.size < w2.heap.size := hz2; have HB2 := hid hb2; clear hb2))
  go_ret
  refine ⟨?_, bnew (bthen (bnew (bthen (bnew (bid w) _) HB1.out) _) HB2.out) _⟩
  first
    | rfl
    | (show Ending.returned (.string _) = _; simp [nameL, kindL, partL]; done)
    | (show Ending.returned (.string _) = _; simp only [nameL, kindL, partL]; congr 2; apply ByteArray.ext; simp; done)

set_option maxHeartbeats 2000000 in
theorem refName_7_2 (m : PM) (i a : Nat) (w : World) (h : m.Ok) (hh : m.Has 7 i 2) (ha : (a : Int) = m.loc 7 i 2) :
    Calls Tryd.prog 38 #[m.v, .int .i64 (a : Int)] w fun e w' => e = .returned (.string ⟨(nameL m.l.toNat 7 i 2).toArray⟩) ∧ Below w.heap.size w w' := by
  have HP := hid (fun W => places_any m W h)
  obtain ⟨z1, z2⟩ := m.size_bounds h
  obtain ⟨_, _, g3, g4⟩ := m.loc_range h hh
  have haA : a < m.size.toNat := by omega
  have hc := tup_cells h hh m.size.toNat a ha haA
  rw [show tupL m.l.toNat 7 i 2 = [8, (i : Int), 0, 2] from rfl] at hc
  have HC := hid hc
  clear hc
  have hi := hh.many
  obtain ⟨_, _, _, hb, _⟩ := m.bounds h 7 (by decide)
  have hi99 : i < 100 := by omega
  have HD1 := hid (Decimal_any i hi99)
  have l1 := dd_len i
  have hLL : m.l.toNat = m.l.toNat := rfl
  generalize hA : m.size.toNat = A at *
  have hA1 : A ≤ 314 := by omega
  clear z1 z2 g3 g4 hb hA ha hi
  generalize m.recs A = zs at *
  generalize hL : m.l.toNat = LL at *
  clear h hh hL
  obtain ⟨s, l, t, c, d⟩ := m
  have i1 : (0 : Int) ≤ (a : Int) := by omega
  have i2 : (a : Int) < (A : Int) := by omega
  show Calls _ _ #[.agg #[.int .i64 s, .int .i64 l, .int .i64 t, .int .i64 c, .int .i64 d], _] _ _
  go_enter Tryd.func38, Tryd.ntmps38
  go_wp2_with (first | (go_at_call 42; refine (HP.out _).mono ?_; rintro e w1 ⟨⟨g, cap, rfl, hr⟩, hb1⟩; have r0 := hr.cell (j := a * 4) (by omega); have r1 := hr.cell (j := a * 4 + 1) (by omega); have r2 := hr.cell (j := a * 4 + 2) (by omega); have r3 := hr.cell (j := a * 4 + 3) (by omega); rw [HC.out.1] at r0; rw [HC.out.2.1] at r1; rw [HC.out.2.2.1] at r2; rw [HC.out.2.2.2] at r3; have hgl := hr.lt.2; have hrm := hr.room; unfold maxLen at hrm; obtain ⟨q1, q2⟩ := hrm; have HR := hid hr; have HB1 := hid hb1; clear hr hb1) | (go_at_call 48; refine (HD1.out _).mono ?_; rintro e w2 ⟨rfl, hb2⟩; obtain ⟨hc2, hf2, hz2⟩ := bcell hb2 (size_alloc1 _ _); have hz9 : w1.heap.size < w2.heap.size := hz2; have HB2 := hid hb2; clear hb2))
  go_ret
  refine ⟨?_, bnew (bthen (bnew (bthen (bnew (bid w) _) HB1.out) _) HB2.out) _⟩
  first
    | rfl
    | (show Ending.returned (.string _) = _; simp [nameL, kindL, partL]; done)
    | (show Ending.returned (.string _) = _; simp only [nameL, kindL, partL]; congr 2; apply ByteArray.ext; simp; done)
    | (have ep : partL 7 2 = [115, 108, 111, 116, 32, 48] := rfl; show Ending.returned (.string _) = _; simp only [nameL, kindL, ep]; congr 2; apply ByteArray.ext; simp; done)

set_option maxHeartbeats 2000000 in
theorem refName_7_3 (m : PM) (i a : Nat) (w : World) (h : m.Ok) (hh : m.Has 7 i 3) (ha : (a : Int) = m.loc 7 i 3) :
    Calls Tryd.prog 38 #[m.v, .int .i64 (a : Int)] w fun e w' => e = .returned (.string ⟨(nameL m.l.toNat 7 i 3).toArray⟩) ∧ Below w.heap.size w w' := by
  have HP := hid (fun W => places_any m W h)
  obtain ⟨z1, z2⟩ := m.size_bounds h
  obtain ⟨_, _, g3, g4⟩ := m.loc_range h hh
  have haA : a < m.size.toNat := by omega
  have hc := tup_cells h hh m.size.toNat a ha haA
  rw [show tupL m.l.toNat 7 i 3 = [8, (i : Int), 0, 3] from rfl] at hc
  have HC := hid hc
  clear hc
  have hi := hh.many
  obtain ⟨_, _, _, hb, _⟩ := m.bounds h 7 (by decide)
  have hi99 : i < 100 := by omega
  have HD1 := hid (Decimal_any i hi99)
  have l1 := dd_len i
  have hLL : m.l.toNat = m.l.toNat := rfl
  generalize hA : m.size.toNat = A at *
  have hA1 : A ≤ 314 := by omega
  clear z1 z2 g3 g4 hb hA ha hi
  generalize m.recs A = zs at *
  generalize hL : m.l.toNat = LL at *
  clear h hh hL
  obtain ⟨s, l, t, c, d⟩ := m
  have i1 : (0 : Int) ≤ (a : Int) := by omega
  have i2 : (a : Int) < (A : Int) := by omega
  show Calls _ _ #[.agg #[.int .i64 s, .int .i64 l, .int .i64 t, .int .i64 c, .int .i64 d], _] _ _
  go_enter Tryd.func38, Tryd.ntmps38
  go_wp2_with (first | (go_at_call 42; refine (HP.out _).mono ?_; rintro e w1 ⟨⟨g, cap, rfl, hr⟩, hb1⟩; have r0 := hr.cell (j := a * 4) (by omega); have r1 := hr.cell (j := a * 4 + 1) (by omega); have r2 := hr.cell (j := a * 4 + 2) (by omega); have r3 := hr.cell (j := a * 4 + 3) (by omega); rw [HC.out.1] at r0; rw [HC.out.2.1] at r1; rw [HC.out.2.2.1] at r2; rw [HC.out.2.2.2] at r3; have hgl := hr.lt.2; have hrm := hr.room; unfold maxLen at hrm; obtain ⟨q1, q2⟩ := hrm; have HR := hid hr; have HB1 := hid hb1; clear hr hb1) | (go_at_call 48; refine (HD1.out _).mono ?_; rintro e w2 ⟨rfl, hb2⟩; obtain ⟨hc2, hf2, hz2⟩ := bcell hb2 (size_alloc1 _ _); have hz9 : w1.heap.size < w2.heap.size := hz2; have HB2 := hid hb2; clear hb2))
  go_ret
  refine ⟨?_, bnew (bthen (bnew (bthen (bnew (bid w) _) HB1.out) _) HB2.out) _⟩
  first
    | rfl
    | (show Ending.returned (.string _) = _; simp [nameL, kindL, partL]; done)
    | (show Ending.returned (.string _) = _; simp only [nameL, kindL, partL]; congr 2; apply ByteArray.ext; simp; done)
    | (have ep : partL 7 3 = [115, 108, 111, 116, 32, 49] := rfl; show Ending.returned (.string _) = _; simp only [nameL, kindL, ep]; congr 2; apply ByteArray.ext; simp; done)

set_option maxHeartbeats 2000000 in
theorem refName_7_4 (m : PM) (i a : Nat) (w : World) (h : m.Ok) (hh : m.Has 7 i 4) (ha : (a : Int) = m.loc 7 i 4) :
    Calls Tryd.prog 38 #[m.v, .int .i64 (a : Int)] w fun e w' => e = .returned (.string ⟨(nameL m.l.toNat 7 i 4).toArray⟩) ∧ Below w.heap.size w w' := by
  have HP := hid (fun W => places_any m W h)
  obtain ⟨z1, z2⟩ := m.size_bounds h
  obtain ⟨_, _, g3, g4⟩ := m.loc_range h hh
  have haA : a < m.size.toNat := by omega
  have hc := tup_cells h hh m.size.toNat a ha haA
  rw [show tupL m.l.toNat 7 i 4 = [8, (i : Int), 0, 4] from rfl] at hc
  have HC := hid hc
  clear hc
  have hi := hh.many
  obtain ⟨_, _, _, hb, _⟩ := m.bounds h 7 (by decide)
  have hi99 : i < 100 := by omega
  have HD1 := hid (Decimal_any i hi99)
  have l1 := dd_len i
  have hLL : m.l.toNat = m.l.toNat := rfl
  generalize hA : m.size.toNat = A at *
  have hA1 : A ≤ 314 := by omega
  clear z1 z2 g3 g4 hb hA ha hi
  generalize m.recs A = zs at *
  generalize hL : m.l.toNat = LL at *
  clear h hh hL
  obtain ⟨s, l, t, c, d⟩ := m
  have i1 : (0 : Int) ≤ (a : Int) := by omega
  have i2 : (a : Int) < (A : Int) := by omega
  show Calls _ _ #[.agg #[.int .i64 s, .int .i64 l, .int .i64 t, .int .i64 c, .int .i64 d], _] _ _
  go_enter Tryd.func38, Tryd.ntmps38
  go_wp2_with (first | (go_at_call 42; refine (HP.out _).mono ?_; rintro e w1 ⟨⟨g, cap, rfl, hr⟩, hb1⟩; have r0 := hr.cell (j := a * 4) (by omega); have r1 := hr.cell (j := a * 4 + 1) (by omega); have r2 := hr.cell (j := a * 4 + 2) (by omega); have r3 := hr.cell (j := a * 4 + 3) (by omega); rw [HC.out.1] at r0; rw [HC.out.2.1] at r1; rw [HC.out.2.2.1] at r2; rw [HC.out.2.2.2] at r3; have hgl := hr.lt.2; have hrm := hr.room; unfold maxLen at hrm; obtain ⟨q1, q2⟩ := hrm; have HR := hid hr; have HB1 := hid hb1; clear hr hb1) | (go_at_call 48; refine (HD1.out _).mono ?_; rintro e w2 ⟨rfl, hb2⟩; obtain ⟨hc2, hf2, hz2⟩ := bcell hb2 (size_alloc1 _ _); have hz9 : w1.heap.size < w2.heap.size := hz2; have HB2 := hid hb2; clear hb2))
  go_ret
  refine ⟨?_, bnew (bthen (bnew (bthen (bnew (bid w) _) HB1.out) _) HB2.out) _⟩
  first
    | rfl
    | (show Ending.returned (.string _) = _; simp [nameL, kindL, partL]; done)
    | (show Ending.returned (.string _) = _; simp only [nameL, kindL, partL]; congr 2; apply ByteArray.ext; simp; done)
    | (have ep : partL 7 4 = [115, 108, 111, 116, 32, 50] := rfl; show Ending.returned (.string _) = _; simp only [nameL, kindL, ep]; congr 2; apply ByteArray.ext; simp; done)

set_option maxHeartbeats 2000000 in
theorem refName_7_5 (m : PM) (i a : Nat) (w : World) (h : m.Ok) (hh : m.Has 7 i 5) (ha : (a : Int) = m.loc 7 i 5) :
    Calls Tryd.prog 38 #[m.v, .int .i64 (a : Int)] w fun e w' => e = .returned (.string ⟨(nameL m.l.toNat 7 i 5).toArray⟩) ∧ Below w.heap.size w w' := by
  have HP := hid (fun W => places_any m W h)
  obtain ⟨z1, z2⟩ := m.size_bounds h
  obtain ⟨_, _, g3, g4⟩ := m.loc_range h hh
  have haA : a < m.size.toNat := by omega
  have hc := tup_cells h hh m.size.toNat a ha haA
  rw [show tupL m.l.toNat 7 i 5 = [8, (i : Int), 0, 5] from rfl] at hc
  have HC := hid hc
  clear hc
  have hi := hh.many
  obtain ⟨_, _, _, hb, _⟩ := m.bounds h 7 (by decide)
  have hi99 : i < 100 := by omega
  have HD1 := hid (Decimal_any i hi99)
  have l1 := dd_len i
  have hLL : m.l.toNat = m.l.toNat := rfl
  generalize hA : m.size.toNat = A at *
  have hA1 : A ≤ 314 := by omega
  clear z1 z2 g3 g4 hb hA ha hi
  generalize m.recs A = zs at *
  generalize hL : m.l.toNat = LL at *
  clear h hh hL
  obtain ⟨s, l, t, c, d⟩ := m
  have i1 : (0 : Int) ≤ (a : Int) := by omega
  have i2 : (a : Int) < (A : Int) := by omega
  show Calls _ _ #[.agg #[.int .i64 s, .int .i64 l, .int .i64 t, .int .i64 c, .int .i64 d], _] _ _
  go_enter Tryd.func38, Tryd.ntmps38
  go_wp2_with (first | (go_at_call 42; refine (HP.out _).mono ?_; rintro e w1 ⟨⟨g, cap, rfl, hr⟩, hb1⟩; have r0 := hr.cell (j := a * 4) (by omega); have r1 := hr.cell (j := a * 4 + 1) (by omega); have r2 := hr.cell (j := a * 4 + 2) (by omega); have r3 := hr.cell (j := a * 4 + 3) (by omega); rw [HC.out.1] at r0; rw [HC.out.2.1] at r1; rw [HC.out.2.2.1] at r2; rw [HC.out.2.2.2] at r3; have hgl := hr.lt.2; have hrm := hr.room; unfold maxLen at hrm; obtain ⟨q1, q2⟩ := hrm; have HR := hid hr; have HB1 := hid hb1; clear hr hb1) | (go_at_call 48; refine (HD1.out _).mono ?_; rintro e w2 ⟨rfl, hb2⟩; obtain ⟨hc2, hf2, hz2⟩ := bcell hb2 (size_alloc1 _ _); have hz9 : w1.heap.size < w2.heap.size := hz2; have HB2 := hid hb2; clear hb2))
  go_ret
  refine ⟨?_, bnew (bthen (bnew (bthen (bnew (bid w) _) HB1.out) _) HB2.out) _⟩
  first
    | rfl
    | (show Ending.returned (.string _) = _; simp [nameL, kindL, partL]; done)
    | (show Ending.returned (.string _) = _; simp only [nameL, kindL, partL]; congr 2; apply ByteArray.ext; simp; done)
    | (have ep : partL 7 5 = [115, 108, 111, 116, 32, 51] := rfl; show Ending.returned (.string _) = _; simp only [nameL, kindL, ep]; congr 2; apply ByteArray.ext; simp; done)

set_option maxHeartbeats 2000000 in
theorem refName_8_0 (m : PM) (i a : Nat) (w : World) (h : m.Ok) (hh : m.Has 8 i 0) (ha : (a : Int) = m.loc 8 i 0) :
    Calls Tryd.prog 38 #[m.v, .int .i64 (a : Int)] w fun e w' => e = .returned (.string ⟨(nameL m.l.toNat 8 i 0).toArray⟩) ∧ Below w.heap.size w w' := by
  have HP := hid (fun W => places_any m W h)
  obtain ⟨z1, z2⟩ := m.size_bounds h
  obtain ⟨_, _, g3, g4⟩ := m.loc_range h hh
  have haA : a < m.size.toNat := by omega
  have hc := tup_cells h hh m.size.toNat a ha haA
  rw [show tupL m.l.toNat 8 i 0 = [9, (i : Int), 0, 0] from rfl] at hc
  have HC := hid hc
  clear hc
  have hi := hh.many
  obtain ⟨_, _, _, hb, _⟩ := m.bounds h 8 (by decide)
  have hi99 : i < 100 := by omega
  have HD1 := hid (Decimal_any i hi99)
  have l1 := dd_len i
  have hLL : m.l.toNat = m.l.toNat := rfl
  generalize hA : m.size.toNat = A at *
  have hA1 : A ≤ 314 := by omega
  clear z1 z2 g3 g4 hb hA ha hi
  generalize m.recs A = zs at *
  generalize hL : m.l.toNat = LL at *
  clear h hh hL
  obtain ⟨s, l, t, c, d⟩ := m
  have i1 : (0 : Int) ≤ (a : Int) := by omega
  have i2 : (a : Int) < (A : Int) := by omega
  show Calls _ _ #[.agg #[.int .i64 s, .int .i64 l, .int .i64 t, .int .i64 c, .int .i64 d], _] _ _
  go_enter Tryd.func38, Tryd.ntmps38
  go_wp2_with (first | (go_at_call 42; refine (HP.out _).mono ?_; rintro e w1 ⟨⟨g, cap, rfl, hr⟩, hb1⟩; have r0 := hr.cell (j := a * 4) (by omega); have r1 := hr.cell (j := a * 4 + 1) (by omega); have r2 := hr.cell (j := a * 4 + 2) (by omega); have r3 := hr.cell (j := a * 4 + 3) (by omega); rw [HC.out.1] at r0; rw [HC.out.2.1] at r1; rw [HC.out.2.2.1] at r2; rw [HC.out.2.2.2] at r3; have hgl := hr.lt.2; have hrm := hr.room; unfold maxLen at hrm; obtain ⟨q1, q2⟩ := hrm; have HR := hid hr; have HB1 := hid hb1; clear hr hb1) | (go_at_call 48; refine (HD1.out _).mono ?_; rintro e w2 ⟨rfl, hb2⟩; obtain ⟨hc2, hf2, hz2⟩ := bcell hb2 (size_alloc1 _ _); have hz9 : w1.heap.size < w2.heap.size := hz2; have HB2 := hid hb2; clear hb2))
  go_ret
  refine ⟨?_, bthen (bnew (bthen (bnew (bid w) _) HB1.out) _) HB2.out⟩
  first
    | rfl
    | (show Ending.returned (.string _) = _; simp [nameL, kindL, partL]; done)
    | (show Ending.returned (.string _) = _; simp only [nameL, kindL, partL]; congr 2; apply ByteArray.ext; simp; done)

set_option maxHeartbeats 2000000 in
theorem refName_8_1 (m : PM) (i a : Nat) (w : World) (h : m.Ok) (hh : m.Has 8 i 1) (ha : (a : Int) = m.loc 8 i 1) :
    Calls Tryd.prog 38 #[m.v, .int .i64 (a : Int)] w fun e w' => e = .returned (.string ⟨(nameL m.l.toNat 8 i 1).toArray⟩) ∧ Below w.heap.size w w' := by
  have HP := hid (fun W => places_any m W h)
  obtain ⟨z1, z2⟩ := m.size_bounds h
  obtain ⟨_, _, g3, g4⟩ := m.loc_range h hh
  have haA : a < m.size.toNat := by omega
  have hc := tup_cells h hh m.size.toNat a ha haA
  rw [show tupL m.l.toNat 8 i 1 = [10, (i : Int), 0, 0] from rfl] at hc
  have HC := hid hc
  clear hc
  have hi := hh.many
  obtain ⟨_, _, _, hb, _⟩ := m.bounds h 8 (by decide)
  have hi99 : i < 100 := by omega
  have HD1 := hid (Decimal_any i hi99)
  have l1 := dd_len i
  have hLL : m.l.toNat = m.l.toNat := rfl
  generalize hA : m.size.toNat = A at *
  have hA1 : A ≤ 314 := by omega
  clear z1 z2 g3 g4 hb hA ha hi
  generalize m.recs A = zs at *
  generalize hL : m.l.toNat = LL at *
  clear h hh hL
  obtain ⟨s, l, t, c, d⟩ := m
  have i1 : (0 : Int) ≤ (a : Int) := by omega
  have i2 : (a : Int) < (A : Int) := by omega
  show Calls _ _ #[.agg #[.int .i64 s, .int .i64 l, .int .i64 t, .int .i64 c, .int .i64 d], _] _ _
  go_enter Tryd.func38, Tryd.ntmps38
  go_wp2_with (first | (go_at_call 42; refine (HP.out _).mono ?_; rintro e w1 ⟨⟨g, cap, rfl, hr⟩, hb1⟩; have r0 := hr.cell (j := a * 4) (by omega); have r1 := hr.cell (j := a * 4 + 1) (by omega); have r2 := hr.cell (j := a * 4 + 2) (by omega); have r3 := hr.cell (j := a * 4 + 3) (by omega); rw [HC.out.1] at r0; rw [HC.out.2.1] at r1; rw [HC.out.2.2.1] at r2; rw [HC.out.2.2.2] at r3; have hgl := hr.lt.2; have hrm := hr.room; unfold maxLen at hrm; obtain ⟨q1, q2⟩ := hrm; have HR := hid hr; have HB1 := hid hb1; clear hr hb1) | (go_at_call 48; refine (HD1.out _).mono ?_; rintro e w2 ⟨rfl, hb2⟩; obtain ⟨hc2, hf2, hz2⟩ := bcell hb2 (size_alloc1 _ _); have hz9 : w1.heap.size < w2.heap.size := hz2; have HB2 := hid hb2; clear hb2))
  go_ret
  refine ⟨?_, bthen (bnew (bthen (bnew (bid w) _) HB1.out) _) HB2.out⟩
  first
    | rfl
    | (show Ending.returned (.string _) = _; simp [nameL, kindL, partL]; done)
    | (show Ending.returned (.string _) = _; simp only [nameL, kindL, partL]; congr 2; apply ByteArray.ext; simp; done)

end Go.Proofs.YtjekhjjighbfaaaDoor
