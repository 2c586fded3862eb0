/-
  Package text: with, at a line that is none, and at one too many.
-/
import Derived.Test.YtbobjhadckeieaaGreatDoorTWith
import Derived.Test.YtbobjhadckeieaaGreatDoorTWrong
namespace Go.Proofs.YtbobjhadckeieaaGreatDoor
open Go.RowKit
set_option linter.unusedVariables false

theorem instr_no {line : List UInt8} (h : instrOf line = none) (w : World) (ht : Tabs w) (hl : line.length ≤ 100000) :
    Calls Tryz.prog 42 #[.string (bsOf line)] w fun e w' => e = .returned (.tuple #[.agg #[.int .i64 0, .int .i64 0, .int .i64 0, .int .i64 0, .int .i64 0], .bool false]) ∧ Below w.heap.size w w' := by
  refine (instr_any line w ht hl).mono ?_
  rintro e w' ⟨h1, hb⟩
  rcases h1 with ⟨j, hj, he⟩ | ⟨hn, he⟩
  · rw [h] at hj; cases hj
  · exact ⟨he, hb⟩

/-- A line's fault: what stood so far, and the error with the line. -/
def WithBad (B : Nat) (v : Value) (pl : Int) (s : Addr) (w : World) (e : Ending) (w' : World) : Prop :=
  ∃ b, e = .returned (.tuple #[v, errV 73 ⟨b, 0, none⟩]) ∧ WrongAt w' b pl s ∧ w.heap.size ≤ b ∧ b < w'.heap.size ∧ Below w.heap.size w w'

set_option maxRecDepth 100000 in
set_option maxHeartbeats 2000000 in
theorem with_bad (n c : Nat) (a : Option Addr) (line : List UInt8) (pl : Int) (w : World) (ht : Tabs w) {sb : Nat → Addr} (hs : Sents w sb) (h : instrOf line = none) (hne : line ≠ []) (hl : line.length ≤ 100000) :
    Calls Tryz.prog 23 #[.slice a n c, .string (bsOf line), .int .i64 pl] w (WithBad 0 (.slice a n c) pl (sb 3) w) := by
  have HIY := hid (fun W hT => instr_no h W hT hl)
  have HT := hid ht
  have HS := hid hs
  have he : (bsOf line).toList = line := toList_bsOf line
  obtain ⟨x, r, rfl⟩ : ∃ x r, line = x :: r := by
    cases line with
    | nil => exact absurd rfl hne
    | cons x r => exact ⟨x, r, rfl⟩
  clear ht hs hl h hne
  go_enter Tryz.func23, Tryz.ntmps23
  go_wp2_with (first | (go_at_call 42; (with_reducible refine (HIY.out _ HT.out).mono ?_); rintro e w1 ⟨rfl, hb1⟩; have HB1 := hid hb1; clear hb1) | (go_at_call 21; (refine (wrong_any (HS.out.below (by first | exact HB1.out | exact bnew HB1.out _)) 3 (by decide) (by decide) pl).mono ?_); rintro e w2 ⟨rfl, hw2, hlt2, hb2⟩; have HW2 := hid hw2; have HLT2 := hid hlt2; have HB2 := hid hb2; clear hw2 hlt2 hb2))
  go_ret2
  exact ⟨_, rfl, by have h := HW2.out; rw [size_alloc1] at h; exact h, Nat.le_succ_of_le HB1.out.size, by have h := HLT2.out; rw [size_alloc1] at h; exact h, bthen (bnew HB1.out _) HB2.out⟩

set_option maxRecDepth 100000 in
set_option maxHeartbeats 2000000 in
theorem with_many (c : Nat) (a : Option Addr) (line : List UInt8) (i : Ins) (pl : Int) (w : World) (ht : Tabs w) {sb : Nat → Addr} (hs : Sents w sb) (h : instrOf line = some i) (hne : line ≠ []) (hl : line.length ≤ 100000) :
    Calls Tryz.prog 23 #[.slice a 48 c, .string (bsOf line), .int .i64 pl] w (WithBad 0 (.slice a 48 c) pl (sb 4) w) := by
  have HIY := hid (fun W hT => instr_yes h W hT hl)
  have HT := hid ht
  have HS := hid hs
  have he : (bsOf line).toList = line := toList_bsOf line
  obtain ⟨x, r, rfl⟩ : ∃ x r, line = x :: r := by
    cases line with
    | nil => exact absurd rfl hne
    | cons x r => exact ⟨x, r, rfl⟩
  clear ht hs hl h hne
  go_enter Tryz.func23, Tryz.ntmps23
  go_wp2_with (first | (go_at_call 42; (with_reducible refine (HIY.out _ HT.out).mono ?_); rintro e w1 ⟨rfl, hb1⟩; have HB1 := hid hb1; clear hb1) | (go_at_call 21; (refine (wrong_any (HS.out.below (by first | exact HB1.out | exact bnew HB1.out _)) 4 (by decide) (by decide) pl).mono ?_); rintro e w2 ⟨rfl, hw2, hlt2, hb2⟩; have HW2 := hid hw2; have HLT2 := hid hlt2; have HB2 := hid hb2; clear hw2 hlt2 hb2))
  go_ret2
  exact ⟨_, rfl, by have h := HW2.out; rw [size_alloc1] at h; exact h, Nat.le_succ_of_le HB1.out.size, by have h := HLT2.out; rw [size_alloc1] at h; exact h, bthen (bnew HB1.out _) HB2.out⟩

end Go.Proofs.YtbobjhadckeieaaGreatDoor
