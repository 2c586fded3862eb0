/-
  eval.May: which instructions may be.
-/
import Derived.Test.YtblalejegjieaaaGreatDoorIns
import Derived.Deep.DeepCutAuto
import Derived.Deep.CutBlock
namespace Go.Proofs.YtblalejegjieaaaGreatDoor
open Go.RowKit
set_option linter.unusedVariables false
theorem mayB_none {i : Ins} (h : i.op < 1 ∨ 22 < i.op) : mayB i = false := by
  have : opB i.op = false := decide_eq_false (by omega)
  unfold mayB
  rw [this]; rfl

/-- The slots of May behind its switch. -/
def LimAt (op : Int) (s3 s4 s5 s6 : Value) : Prop := s3 = .int .i64 (limA op) ∧ s4 = .int .i64 (limB op) ∧ s5 = .int .i64 (limC op) ∧ s6 = .bool (freeB op) ∧ opB op = true

set_option maxHeartbeats 4000000 in
theorem May_any (i : Ins) (w : World) :
    Calls Tryz.prog 72 #[i.v] w fun e w' => e = .returned (.bool (mayB i)) ∧ Below w.heap.size w w' := by
  obtain ⟨op, a, b, c, n⟩ := i
  show Calls _ _ #[.agg #[.int .i64 op, .int .i64 a, .int .i64 b, .int .i64 c, .int .i64 n]] _ _
  go_enter Tryz.func72, Tryz.ntmps72
  go_upto_block 0 with fail
  go_cut [3, 4, 5, 6] (fun s3 s4 s5 s6 wx => LimAt op s3 s4 s5 s6 ∧ wx = w.alloc (.cells #[.int .i64 op, .int .i64 a, .int .i64 b, .int .i64 c, .int .i64 n] 40))
  case first =>
    rcases op_cases op with (rfl | rfl | rfl | rfl | rfl | rfl | rfl | rfl | rfl | rfl | rfl) | (rfl | rfl | rfl | rfl | rfl | rfl | rfl | rfl | rfl | rfl | rfl) | h
    case inr.inr =>
      have HN := hid (mayB_none (i := ⟨op, a, b, c, n⟩) h)
      have e1 : ∀ k : Int, 1 ≤ k → k ≤ 22 → (op == k) = false := fun k h1 h2 => by simp; omega
      have g1 := e1 1 (by omega) (by omega)
      have g2 := e1 2 (by omega) (by omega)
      have g3 := e1 3 (by omega) (by omega)
      have g4 := e1 4 (by omega) (by omega)
      have g5 := e1 5 (by omega) (by omega)
      have g6 := e1 6 (by omega) (by omega)
      have g7 := e1 7 (by omega) (by omega)
      have g8 := e1 8 (by omega) (by omega)
      have g9 := e1 9 (by omega) (by omega)
      have g10 := e1 10 (by omega) (by omega)
      have g11 := e1 11 (by omega) (by omega)
      have g12 := e1 12 (by omega) (by omega)
      have g13 := e1 13 (by omega) (by omega)
      have g14 := e1 14 (by omega) (by omega)
      have g15 := e1 15 (by omega) (by omega)
      have g16 := e1 16 (by omega) (by omega)
      have g17 := e1 17 (by omega) (by omega)
      have g18 := e1 18 (by omega) (by omega)
      have g19 := e1 19 (by omega) (by omega)
      have g20 := e1 20 (by omega) (by omega)
      have g21 := e1 21 (by omega) (by omega)
      have g22 := e1 22 (by omega) (by omega)
      clear e1 h
      go_wp2
      go_ret
      exact ⟨by rw [HN.out]; rfl, (Below.refl _ _).alloc (Nat.le_refl _) _⟩
    all_goals
      go_wp2
      go_meet
      case rel => exact ⟨⟨rfl, rfl, rfl, rfl, rfl⟩, rfl⟩
  case rest =>
    obtain ⟨⟨rfl, rfl, rfl, rfl, ho⟩, rfl⟩ := hcut
    have HM : mayB ⟨op, a, b, c, n⟩ = (amongB a (limA op) && (amongB b (limB op) && (amongB c (limC op) && (freeB op || decide (n = 0))))) := by
      unfold mayB; rw [ho]; simp [Bool.and_assoc]
    generalize limA op = la at HM ⊢
    generalize limB op = lb at HM ⊢
    generalize limC op = lc at HM ⊢
    generalize freeB op = fr at HM ⊢
    clear ho
    cases h1 : amongB a la
    case' true => cases h2 : amongB b lb
    case' true.true => cases h3 : amongB c lc
    case' true.true.true => cases fr
    case' true.true.true.false => cases h5 : (n == 0)
    case true.true.true.false.false =>
      have H := hid (show mayB ⟨op, a, b, c, n⟩ = false by rw [HM, h1, h2, h3]; simpa using h5)
      clear HM
      go_wp2_with (go_at_call 81; refine (among_any _ _ _).mono ?_; rintro e w' ⟨rfl, rfl⟩)
      go_ret
      exact ⟨by rw [H.out]; rfl, (Below.refl _ _).alloc (Nat.le_refl _) _⟩
    case true.true.true.false.true =>
      have H := hid (show mayB ⟨op, a, b, c, n⟩ = true by rw [HM, h1, h2, h3]; simpa using h5)
      clear HM
      go_wp2_with (go_at_call 81; refine (among_any _ _ _).mono ?_; rintro e w' ⟨rfl, rfl⟩)
      go_ret
      exact ⟨by rw [H.out]; rfl, (Below.refl _ _).alloc (Nat.le_refl _) _⟩
    case true.true.true.true =>
      have H := hid (show mayB ⟨op, a, b, c, n⟩ = true by rw [HM, h1, h2, h3]; rfl)
      clear HM
      go_wp2_with (go_at_call 81; refine (among_any _ _ _).mono ?_; rintro e w' ⟨rfl, rfl⟩)
      go_ret
      exact ⟨by rw [H.out]; rfl, (Below.refl _ _).alloc (Nat.le_refl _) _⟩
    all_goals
      have H := hid (show mayB ⟨op, a, b, c, n⟩ = false by rw [HM]; simp [*])
      clear HM
      go_wp2_with (go_at_call 81; refine (among_any _ _ _).mono ?_; rintro e w' ⟨rfl, rfl⟩)
      go_ret
      exact ⟨by rw [H.out]; rfl, (Below.refl _ _).alloc (Nat.le_refl _) _⟩

end Go.Proofs.YtblalejegjieaaaGreatDoor
