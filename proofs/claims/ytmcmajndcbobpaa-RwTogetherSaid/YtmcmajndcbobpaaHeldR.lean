/-
  How many writers, how many readers hold the lock.
-/
import Derived.Test.YtmcmajndcbobpaaCrowd
namespace Go.Proofs.Ytmcmajndcbobpaa
open Go.RowKit
attribute [local go_sem] Later.cell Later.frozen

def heldW (hs : Nat → HD) : Nat → Nat
  | 0 => 0
  | k + 1 => heldW hs k + if (hs k).s = 9 ∧ (hs k).rd = false then 1 else 0
def heldR (hs : Nat → HD) : Nat → Nat
  | 0 => 0
  | k + 1 => heldR hs k + if (hs k).s = 9 ∧ (hs k).rd = true then 1 else 0
theorem heldW_le (hs : Nat → HD) (k : Nat) : heldW hs k ≤ k := by
  induction k with
  | zero => exact Nat.le_refl _
  | succ k ih => simp only [heldW]; split <;> omega
theorem heldR_le (hs : Nat → HD) (k : Nat) : heldR hs k ≤ k := by
  induction k with
  | zero => exact Nat.le_refl _
  | succ k ih => simp only [heldR]; split <;> omega

set_option maxRecDepth 100000 in
set_option maxHeartbeats 4000000 in
theorem held_any (w : World) (qc : Nat) (hs : Nat → HD) (os : Nat → Bool) (ns : Nat → Int) (hc : CrAt w qc hs os ns) :
    Calls Try.prog 27 #[.pointer (some ⟨qc, 0, none⟩)] w fun e w' => e = .returned (.tuple #[.int .i64 (heldW hs 4), .int .i64 (heldR hs 4)]) ∧ w = w' := by
  have HC := hid hc
  clear hc
  go_enter Try.func27, Try.ntmps27
  go_wp2_with fail
  go_loopw [4, 5, 6] (fun a b i W => ∃ k : Nat, k ≤ 4 ∧ a = .int .i64 (heldW hs k) ∧ b = .int .i64 (heldR hs k) ∧ i = .int .i64 k ∧ W = w) (fun _ _ i _ => 4 - (intOf i).toNat)
  case atStart => exact ⟨0, by omega, rfl, rfl, rfl, rfl⟩
  case round =>
    obtain ⟨k, hk, rfl, rfl, rfl, rfl⟩ := hrel
    by_cases hlt : k < 4
    · have i1 : (0 : Int) ≤ (k : Int) := by omega
      have i2 : (k : Int) < 4 := by omega
      obtain ⟨_, _, e2, e3, _, _, _, _⟩ := HC.out.facts hlt
      have hw1 := heldW_le hs k
      have hr1 := heldR_le hs k
      by_cases c9 : (hs k).s = 9
      · cases cr : (hs k).rd
        · rw [cr] at e3
          have HW2 := hid (show heldW hs (k + 1) = heldW hs k + 1 from by simp [heldW, c9, cr])
          have HR2 := hid (show heldR hs (k + 1) = heldR hs k from by simp [heldR, c9, cr])
          generalize heldW hs k = a at *
          generalize heldR hs k = b at *
          have a1 : (0 : Int) ≤ (a : Int) := by omega
          have a2 : (a : Int) ≤ 4 := by omega
          go_wp2_with fail
          go_roundw
          case rel => exact ⟨k + 1, by omega, by rw [HW2.out]; go_num, by rw [HR2.out], by go_num, trivial⟩
          case measure => simp [intOf]; omega
        · rw [cr] at e3
          have HR2 := hid (show heldR hs (k + 1) = heldR hs k + 1 from by simp [heldR, c9, cr])
          have HW2 := hid (show heldW hs (k + 1) = heldW hs k from by simp [heldW, c9, cr])
          generalize heldW hs k = a at *
          generalize heldR hs k = b at *
          have a1 : (0 : Int) ≤ (b : Int) := by omega
          have a2 : (b : Int) ≤ 4 := by omega
          go_wp2_with fail
          go_roundw
          case rel => exact ⟨k + 1, by omega, by rw [HW2.out], by rw [HR2.out]; go_num, by go_num, trivial⟩
          case measure => simp [intOf]; omega
      · have HR2 := hid (show heldR hs (k + 1) = heldR hs k from by simp [heldR, c9])
        have HW2 := hid (show heldW hs (k + 1) = heldW hs k from by simp [heldW, c9])
        generalize heldW hs k = a at *
        generalize heldR hs k = b at *
        go_wp2_with fail
        go_roundw
        case rel => exact ⟨k + 1, by omega, by rw [HW2.out], by rw [HR2.out], by go_num, trivial⟩
        case measure => simp [intOf]; omega
    · obtain rfl : k = 4 := by omega
      go_wp2_with fail
      go_ret2
      exact ⟨rfl, rfl⟩

end Go.Proofs.Ytmcmajndcbobpaa
