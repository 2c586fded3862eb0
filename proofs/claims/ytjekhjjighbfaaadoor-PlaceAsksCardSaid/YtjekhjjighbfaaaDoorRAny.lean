/-
  The document's own name of any number of a place, and the five numbers of a map handed over.
-/
import Derived.Test.YtjekhjjighbfaaaDoorRName
import Derived.Test.YtjekhjjighbfaaaDoorRName5
namespace Go.Proofs.YtjekhjjighbfaaaDoor
open Go.RowKit

theorem refName_at (m : PM) (k i p a : Nat) (w : World) (h : m.Ok) (hh : m.Has k i p) (ha : (a : Int) = m.loc k i p) :
    Calls Tryd.prog 38 #[m.v, .int .i64 (a : Int)] w fun e w' => e = .returned (.string ⟨(nameL m.l.toNat k i p).toArray⟩) ∧ Below w.heap.size w w' := by
  have hk := hh.kind
  have hp := hh.part
  have : k = 0 ∨ k = 1 ∨ k = 2 ∨ k = 3 ∨ k = 4 ∨ k = 5 ∨ k = 6 ∨ k = 7 ∨ k = 8 := by omega
  rcases this with rfl | rfl | rfl | rfl | rfl | rfl | rfl | rfl | rfl
  · exact refName_0 m i p a w h hh ha
  · exact refName_1 m i p a w h hh ha
  · exact refName_2 m i p a w h hh ha
  · have : p = 0 ∨ p = 1 ∨ p = 2 ∨ p = 3 ∨ p = 4 ∨ p = 5 := by simp only [PM.each] at hp; omega
    rcases this with rfl | rfl | rfl | rfl | rfl | rfl
    · exact refName_3_0 m i a w h hh ha
    · exact refName_3_1 m i a w h hh ha
    · exact refName_3_2 m i a w h hh ha
    · exact refName_3_3 m i a w h hh ha
    · exact refName_3_4 m i a w h hh ha
    · exact refName_3_5 m i a w h hh ha
  · have : p = 0 ∨ p = 1 := by simp only [PM.each] at hp; omega
    rcases this with rfl | rfl
    · exact refName_4_0 m i a w h hh ha
    · exact refName_4_1 m i a w h hh ha
  · have : p = 0 ∨ p = 1 := by simp only [PM.each] at hp; omega
    rcases this with rfl | rfl
    · exact refName_5_0 m i a w h hh ha
    · exact refName_5_1 m i a w h hh ha
  · exact refName_6 m i p a w h hh ha
  · have : p = 0 ∨ p = 1 ∨ p = 2 ∨ p = 3 ∨ p = 4 ∨ p = 5 := by simp only [PM.each] at hp; omega
    rcases this with rfl | rfl | rfl | rfl | rfl | rfl
    · exact refName_7_0 m i a w h hh ha
    · exact refName_7_1 m i a w h hh ha
    · exact refName_7_2 m i a w h hh ha
    · exact refName_7_3 m i a w h hh ha
    · exact refName_7_4 m i a w h hh ha
    · exact refName_7_5 m i a w h hh ha
  · have : p = 0 ∨ p = 1 := by simp only [PM.each] at hp; omega
    rcases this with rfl | rfl
    · exact refName_8_0 m i a w h hh ha
    · exact refName_8_1 m i a w h hh ha

set_option maxHeartbeats 1000000 in
theorem refName_none (m : PM) (a : Int) (w : World) (h : ¬ m.Ok) :
    Calls Tryd.prog 38 #[m.v, .int .i64 a] w fun e w' => e = .returned (.string ⟨([] : List UInt8).toArray⟩) ∧ Below w.heap.size w w' := by
  have HP := hid (fun W => places_no m W h)
  clear h
  obtain ⟨s, l, t, c, d⟩ := m
  show Calls _ _ #[.agg #[.int .i64 s, .int .i64 l, .int .i64 t, .int .i64 c, .int .i64 d], _] _ _
  by_cases h0 : a < 0
  · go_enter Tryd.func38, Tryd.ntmps38
    go_wp2_with (go_at_call 42; refine (HP.out _).mono ?_; rintro e w1 ⟨rfl, hb1⟩; have HB1 := hid hb1; clear hb1)
    go_ret
    exact ⟨rfl, bthen (bnew (bid w) _) HB1.out⟩
  · have h1 : (0 : Int) ≤ a := by omega
    go_enter Tryd.func38, Tryd.ntmps38
    go_wp2_with (go_at_call 42; refine (HP.out _).mono ?_; rintro e w1 ⟨rfl, hb1⟩; have HB1 := hid hb1; clear hb1)
    go_ret
    exact ⟨rfl, bthen (bnew (bid w) _) HB1.out⟩

set_option maxHeartbeats 1000000 in
theorem refName_out (m : PM) (a : Int) (w : World) (h : m.Ok) (ha : a < 0 ∨ m.size ≤ a) :
    Calls Tryd.prog 38 #[m.v, .int .i64 a] w fun e w' => e = .returned (.string ⟨([] : List UInt8).toArray⟩) ∧ Below w.heap.size w w' := by
  have HP := hid (fun W => places_any m W h)
  obtain ⟨z1, z2⟩ := m.size_bounds h
  have hA0 : m.size = ((m.size.toNat : Nat) : Int) := by omega
  generalize hA : m.size.toNat = A at *
  rw [hA0] at ha
  clear hA h hA0 z1 z2
  obtain ⟨s, l, t, c, d⟩ := m
  show Calls _ _ #[.agg #[.int .i64 s, .int .i64 l, .int .i64 t, .int .i64 c, .int .i64 d], _] _ _
  by_cases h0 : a < 0
  · clear ha
    go_enter Tryd.func38, Tryd.ntmps38
    go_wp2_with (go_at_call 42; refine (HP.out _).mono ?_; rintro e w1 ⟨⟨g, cap, rfl, hr⟩, hb1⟩; have HB1 := hid hb1; clear hb1 hr)
    go_ret
    exact ⟨rfl, bthen (bnew (bid w) _) HB1.out⟩
  · have h2 : (A : Int) ≤ a := by omega
    have h1 : (0 : Int) ≤ a := by omega
    clear ha
    go_enter Tryd.func38, Tryd.ntmps38
    go_wp2_with (go_at_call 42; refine (HP.out _).mono ?_; rintro e w1 ⟨⟨g, cap, rfl, hr⟩, hb1⟩; have HB1 := hid hb1; clear hb1 hr)
    go_ret
    exact ⟨rfl, bthen (bnew (bid w) _) HB1.out⟩

/-- syncoperef2.Name, whatever is asked. -/
theorem refName_any (m : PM) (a : Int) (w : World) :
    Calls Tryd.prog 38 #[m.v, .int .i64 a] w fun e w' => e = .returned (.string ⟨(m.name a).toArray⟩) ∧ Below w.heap.size w w' := by
  by_cases h1 : m.Ok
  · by_cases h2 : 0 ≤ a ∧ a < m.size
    · obtain ⟨k, i, p, hh, hl, hn⟩ := m.name_in h1 h2.1 h2.2
      rw [hn]
      have e : a = ((a.toNat : Nat) : Int) := by omega
      rw [e]
      exact refName_at m k i p a.toNat w h1 hh (by rw [hl]; exact e.symm)
    · have ho : a < 0 ∨ m.size ≤ a := by omega
      rw [PM.name_out (.inr ho)]
      exact refName_out m a w h1 ho
  · rw [PM.name_out (.inl h1)]
    exact refName_none m a w h1

theorem Ref_any (m : PM) (w : World) :
    Calls Tryd.prog 9 #[m.v] w fun e w' => e = .returned m.v ∧ Below w.heap.size w w' := by
  obtain ⟨s, l, t, c, d⟩ := m
  show Calls _ _ #[.agg #[.int .i64 s, .int .i64 l, .int .i64 t, .int .i64 c, .int .i64 d]] _ _
  go_enter Tryd.func9, Tryd.ntmps9
  go_wp2
  exact bodyPost_ret (v := (PM.mk s l t c d).v) (by simp [results, Tryd.results9, go_sem, PM.v]) rfl ⟨rfl, bnew (bnew (bid w) _) _⟩

end Go.Proofs.YtjekhjjighbfaaaDoor
