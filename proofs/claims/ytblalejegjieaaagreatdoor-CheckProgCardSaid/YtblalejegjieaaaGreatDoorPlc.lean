/-
  THE CONTRACTS OF package place.
-/
import Derived.Test.YtblalejegjieaaaGreatDoorPm
import Derived.Great.BuildSlice
import Derived.Laws.CopyOwn
namespace Go.Proofs.YtblalejegjieaaaGreatDoor
open Go.RowKit

set_option maxHeartbeats 400000 in
theorem within_any (n a b : Int) (w : World) :
    Calls Tryz.prog 55 #[.int .i64 n, .int .i64 a, .int .i64 b] w fun e w' => e = .returned (.bool (inB n a b)) ∧ w = w' := by
  by_cases h1 : a ≤ n
  · by_cases h2 : n ≤ b
    · have H := hid (inB_yes h1 h2)
      go_enter Tryz.func55, Tryz.ntmps55
      go_wp2
      go_ret
      exact ⟨by rw [H.out]; rfl, rfl⟩
    · have H := hid (inB_no (n := n) (a := a) (b := b) (by omega))
      go_enter Tryz.func55, Tryz.ntmps55
      go_wp2
      go_ret
      exact ⟨by rw [H.out]; rfl, rfl⟩
  · have H := hid (inB_no (n := n) (a := a) (b := b) (by omega))
    go_enter Tryz.func55, Tryz.ntmps55
    go_wp2
    go_ret
    exact ⟨by rw [H.out]; rfl, rfl⟩

set_option maxHeartbeats 1000000 in
theorem may_any (m : PM) (w : World) :
    Calls Tryz.prog 34 #[m.v] w fun e w' => e = .returned (.bool (pmayB m)) ∧ Below w.heap.size w w' := by
  obtain ⟨s, l, t, c, d⟩ := m
  show Calls _ _ #[.agg #[.int .i64 s, .int .i64 l, .int .i64 t, .int .i64 c, .int .i64 d]] _ _
  cases h1 : inB s 1 16
  case' true => cases h2 : inB l 0 4
  case' true.true => cases h3 : inB t 1 4
  case' true.true.true => cases h4 : inB c 0 4
  case' true.true.true.true => cases h5 : inB d 0 32
  case true.true.true.true.true =>
    have H := hid (pmayB_yes (m := ⟨s, l, t, c, d⟩) ⟨(inB_iff.1 h1).1, (inB_iff.1 h1).2, (inB_iff.1 h2).1, (inB_iff.1 h2).2, (inB_iff.1 h3).1, (inB_iff.1 h3).2, (inB_iff.1 h4).1, (inB_iff.1 h4).2, (inB_iff.1 h5).1, (inB_iff.1 h5).2⟩)
    go_enter Tryz.func34, Tryz.ntmps34
    go_wp2_with (go_at_call 55; refine (within_any _ _ _ _).mono ?_; rintro e w' ⟨rfl, rfl⟩)
    go_ret
    exact ⟨by rw [H.out]; rfl, (Below.refl _ _).alloc (Nat.le_refl _) _⟩
  all_goals
    have H := hid (pmayB_no (m := ⟨s, l, t, c, d⟩) fun h => by
      have g1 := inB_yes h.s1 h.s2
      have g2 := inB_yes h.l1 h.l2
      have g3 := inB_yes h.t1 h.t2
      have g4 := inB_yes h.c1 h.c2
      have g5 := inB_yes h.d1 h.d2
      simp_all)
    go_enter Tryz.func34, Tryz.ntmps34
    go_wp2_with (go_at_call 55; refine (within_any _ _ _ _).mono ?_; rintro e w' ⟨rfl, rfl⟩)
    go_ret
    exact ⟨by rw [H.out]; rfl, (Below.refl _ _).alloc (Nat.le_refl _) _⟩

def zeros27 : Array Value := #[.int .i64 0, .int .i64 0, .int .i64 0, .int .i64 0, .int .i64 0, .int .i64 0, .int .i64 0, .int .i64 0, .int .i64 0, .int .i64 0, .int .i64 0, .int .i64 0, .int .i64 0, .int .i64 0, .int .i64 0, .int .i64 0, .int .i64 0, .int .i64 0, .int .i64 0, .int .i64 0, .int .i64 0, .int .i64 0, .int .i64 0, .int .i64 0, .int .i64 0, .int .i64 0, .int .i64 0]

end Go.Proofs.YtblalejegjieaaaGreatDoor
