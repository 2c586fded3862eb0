/-
  The document's own MayInstr: fields, field, MayInstr.
-/
import Derived.Test.YtbobjhadckeieaaGreatDoorTMay
import Derived.Test.YtbobjhadckeieaaGreatDoorLater
namespace Go.Proofs.YtbobjhadckeieaaGreatDoor
open Go.RowKit
set_option linter.unusedVariables false

/-- What kind of field each is: 0 none, 1 a register, 2 a lock, 3 a condition, 4 zero or one. -/
def fA (op : Int) : Int := [0, 1, 1, 1, 1, 1, 1, 1, 1, 1, 0, 0, 1, 2, 0, 3, 3, 3, 1, 0, 0, 1, 0].getD op.toNat 0
def fB (op : Int) : Int := [0, 0, 1, 1, 1, 1, 1, 1, 1, 1, 1, 1, 0, 4, 0, 0, 0, 0, 0, 0, 0, 0, 0].getD op.toNat 0
def fC (op : Int) : Int := [0, 0, 1, 1, 1, 1, 1, 1, 0, 0, 0, 0, 0, 0, 0, 0, 0, 0, 0, 0, 0, 0, 0].getD op.toNat 0
/-- How many numbers a kind has. -/
def kindN (k : Int) : Int := [1, 4, 4, 4, 2].getD k.toNat 1
def inKind (k : Int) : Prop := 0 ≤ k ∧ k ≤ 4

theorem results_tmp4 {fn : Func} {t u v x : Tmp} (h : fn.results = #[.tmp t, .tmp u, .tmp v, .tmp x]) (tmps : Array Value) (P : Program) (w : World) :
    (results fn tmps).run P w = .ok (.tuple #[tmps.getD t undef, tmps.getD u undef, tmps.getD v undef, tmps.getD x undef]) w := by
  simp [results, h]

set_option maxHeartbeats 4000000 in
theorem fields_any (op : Int) (w : World) (ho : opB op = true) :
    Calls Tryz.prog 83 #[.int .i64 op] w fun e w' => e = .returned (.tuple #[.int .i64 (fA op), .int .i64 (fB op), .int .i64 (fC op), .bool (freeB op)]) ∧ w = w' := by
  rcases op_cases op with (rfl | rfl | rfl | rfl | rfl | rfl | rfl | rfl | rfl | rfl | rfl) | (rfl | rfl | rfl | rfl | rfl | rfl | rfl | rfl | rfl | rfl | rfl) | h
  case inr.inr => exact absurd (of_decide_eq_true ho) (by omega)
  all_goals
    clear ho
    go_enter Tryz.func83, Tryz.ntmps83
    go_wp2
    (try simp only [Exit.inBlock, Exit.then])
    refine bodyPost_ret (results_tmp4 rfl _ _ _) rfl ?_
    exact ⟨rfl, rfl⟩

set_option maxHeartbeats 4000000 in
theorem fields_no (op : Int) (w : World) (ho : op < 1 ∨ 22 < op) :
    Calls Tryz.prog 83 #[.int .i64 op] w fun e w' => e = .returned (.tuple #[.int .i64 0, .int .i64 0, .int .i64 0, .bool false]) ∧ w = w' := by
  have e1 : ∀ k : Int, 1 ≤ k → k ≤ 22 → (op == k) = false := fun k h1 h2 => by simp; omega
  have g1 := e1 1 (by omega) (by omega)
  have g2 := e1 2 (by omega) (by omega)
  have g3 := e1 3 (by omega) (by omega)
  have g4 := e1 4 (by omega) (by omega)
  have g5 := e1 5 (by omega) (by omega)
  have g6 := e1 6 (by omega) (by omega)
  have g7 := e1 7 (by omega) (by omega)
  have g8 := e1 8 (by omega) (by omega)
  have g9 := e1 9 (by omega) (by omega)
  have g10 := e1 10 (by omega) (by omega)
  have g11 := e1 11 (by omega) (by omega)
  have g12 := e1 12 (by omega) (by omega)
  have g13 := e1 13 (by omega) (by omega)
  have g15 := e1 15 (by omega) (by omega)
  have g16 := e1 16 (by omega) (by omega)
  have g17 := e1 17 (by omega) (by omega)
  have g18 := e1 18 (by omega) (by omega)
  have g21 := e1 21 (by omega) (by omega)
  clear e1 ho
  go_enter Tryz.func83, Tryz.ntmps83
  go_wp2
  (try simp only [Exit.inBlock, Exit.then])
  refine bodyPost_ret (results_tmp4 rfl _ _ _) rfl ?_
  exact ⟨rfl, rfl⟩

theorem kindN_pos (k : Int) (h : inKind k) : 1 ≤ kindN k := by
  obtain ⟨h0, h1⟩ := h
  have : k = 0 ∨ k = 1 ∨ k = 2 ∨ k = 3 ∨ k = 4 := by omega
  rcases this with rfl | rfl | rfl | rfl | rfl <;> decide

set_option maxHeartbeats 4000000 in
theorem field_any (k x : Int) (w : World) (hk : inKind k) :
    Calls Tryz.prog 84 #[.int .i64 k, .int .i64 x] w fun e w' => e = .returned (.bool (amongB x (kindN k))) ∧ Below w.heap.size w w' := by
  obtain ⟨h0, h1⟩ := hk
  have : k = 0 ∨ k = 1 ∨ k = 2 ∨ k = 3 ∨ k = 4 := by omega
  clear h0 h1
  by_cases h2 : 0 ≤ x
  case neg =>
    have HA : ∀ m, amongB x m = false := fun m => amongB_no (fun h => h2 h.1)
    have H := hid HA
    clear HA
    rcases this with rfl | rfl | rfl | rfl | rfl
    all_goals
      go_enter Tryz.func84, Tryz.ntmps84
      go_wp2
      go_ret
      exact ⟨by rw [H.out]; rfl, (Below.refl _ _).alloc (Nat.le_refl _) _⟩
  case pos =>
    rcases this with rfl | rfl | rfl | rfl | rfl
    · by_cases h3 : x ≤ 0
      · have H := hid (amongB_yes (n := x) (m := kindN 0) h2 (by show x < 1; omega))
        go_enter Tryz.func84, Tryz.ntmps84
        go_wp2
        go_ret
        exact ⟨by rw [H.out]; rfl, (Below.refl _ _).alloc (Nat.le_refl _) _⟩
      · have H := hid (amongB_no (n := x) (m := kindN 0) (by show ¬ (0 ≤ x ∧ x < 1); omega))
        go_enter Tryz.func84, Tryz.ntmps84
        go_wp2
        go_ret
        exact ⟨by rw [H.out]; rfl, (Below.refl _ _).alloc (Nat.le_refl _) _⟩
    · by_cases h3 : x ≤ 3
      · have H := hid (amongB_yes (n := x) (m := kindN 1) h2 (by show x < 4; omega))
        go_enter Tryz.func84, Tryz.ntmps84
        go_wp2
        go_ret
        exact ⟨by rw [H.out]; rfl, (Below.refl _ _).alloc (Nat.le_refl _) _⟩
      · have H := hid (amongB_no (n := x) (m := kindN 1) (by show ¬ (0 ≤ x ∧ x < 4); omega))
        go_enter Tryz.func84, Tryz.ntmps84
        go_wp2
        go_ret
        exact ⟨by rw [H.out]; rfl, (Below.refl _ _).alloc (Nat.le_refl _) _⟩
    · by_cases h3 : x ≤ 3
      · have H := hid (amongB_yes (n := x) (m := kindN 2) h2 (by show x < 4; omega))
        go_enter Tryz.func84, Tryz.ntmps84
        go_wp2
        go_ret
        exact ⟨by rw [H.out]; rfl, (Below.refl _ _).alloc (Nat.le_refl _) _⟩
      · have H := hid (amongB_no (n := x) (m := kindN 2) (by show ¬ (0 ≤ x ∧ x < 4); omega))
        go_enter Tryz.func84, Tryz.ntmps84
        go_wp2
        go_ret
        exact ⟨by rw [H.out]; rfl, (Below.refl _ _).alloc (Nat.le_refl _) _⟩
    · by_cases h3 : x ≤ 3
      · have H := hid (amongB_yes (n := x) (m := kindN 3) h2 (by show x < 4; omega))
        go_enter Tryz.func84, Tryz.ntmps84
        go_wp2
        go_ret
        exact ⟨by rw [H.out]; rfl, (Below.refl _ _).alloc (Nat.le_refl _) _⟩
      · have H := hid (amongB_no (n := x) (m := kindN 3) (by show ¬ (0 ≤ x ∧ x < 4); omega))
        go_enter Tryz.func84, Tryz.ntmps84
        go_wp2
        go_ret
        exact ⟨by rw [H.out]; rfl, (Below.refl _ _).alloc (Nat.le_refl _) _⟩
    · by_cases h3 : x ≤ 1
      · have H := hid (amongB_yes (n := x) (m := kindN 4) h2 (by show x < 2; omega))
        go_enter Tryz.func84, Tryz.ntmps84
        go_wp2
        go_ret
        exact ⟨by rw [H.out]; rfl, (Below.refl _ _).alloc (Nat.le_refl _) _⟩
      · have H := hid (amongB_no (n := x) (m := kindN 4) (by show ¬ (0 ≤ x ∧ x < 2); omega))
        go_enter Tryz.func84, Tryz.ntmps84
        go_wp2
        go_ret
        exact ⟨by rw [H.out]; rfl, (Below.refl _ _).alloc (Nat.le_refl _) _⟩

theorem kinds_of (op : Int) (h : opB op = true) : (inKind (fA op) ∧ inKind (fB op) ∧ inKind (fC op)) ∧ kindN (fA op) = limA op ∧ kindN (fB op) = limB op ∧ kindN (fC op) = limC op := by
  rcases op_cases op with (rfl | rfl | rfl | rfl | rfl | rfl | rfl | rfl | rfl | rfl | rfl) | (rfl | rfl | rfl | rfl | rfl | rfl | rfl | rfl | rfl | rfl | rfl) | h'
  case inr.inr => exact absurd (of_decide_eq_true h) (by omega)
  all_goals exact ⟨⟨by unfold inKind; decide, by unfold inKind; decide, by unfold inKind; decide⟩, rfl, rfl, rfl⟩

set_option maxHeartbeats 4000000 in
theorem MayInstr_any (i : Ins) (w : World) :
    Calls Tryz.prog 59 #[i.v] w fun e w' => e = .returned (.bool (mayB i)) ∧ Below w.heap.size w w' := by
  obtain ⟨op, a, b, c, n⟩ := i
  show Calls _ _ #[.agg #[.int .i64 op, .int .i64 a, .int .i64 b, .int .i64 c, .int .i64 n]] _ _
  by_cases ho : 1 ≤ op ∧ op ≤ 22
  case neg =>
    have H := hid (mayB_none (i := ⟨op, a, b, c, n⟩) (show op < 1 ∨ 22 < op by omega))
    have h1 : op < 1 ∨ 22 < op := by omega
    rcases h1 with h1 | h1
    all_goals
      have HF := hid (show op < 1 ∨ 22 < op by omega)
      clear ho
      go_enter Tryz.func59, Tryz.ntmps59
      go_wp2_with (first | (go_at_call 83; refine (fields_no _ _ HF.out).mono ?_; rintro e w' ⟨rfl, rfl⟩))
      go_ret
      exact ⟨by rw [H.out]; rfl, (Below.refl _ _).alloc (Nat.le_refl _) _⟩
  case pos =>
    have ho' : opB op = true := decide_eq_true ho
    have HO := hid ho'
    have HM : mayB ⟨op, a, b, c, n⟩ = (amongB a (limA op) && (amongB b (limB op) && (amongB c (limC op) && (freeB op || decide (n = 0))))) := by
      unfold mayB; rw [ho']; simp [Bool.and_assoc]
    obtain ⟨⟨k1, k2, k3⟩, e1, e2, e3⟩ := kinds_of op ho'
    rw [← e1, ← e2, ← e3] at HM
    obtain ⟨o1, o2⟩ := ho
    have FC := fun w => fields_any op w ho'
    clear e1 e2 e3 ho' HO
    generalize fA op = la at HM k1 FC ⊢
    generalize fB op = lb at HM k2 FC ⊢
    generalize fC op = lc at HM k3 FC ⊢
    generalize freeB op = fr at HM FC ⊢
    have K1 := hid k1
    have K2 := hid k2
    have K3 := hid k3
    have FC' := hid FC
    clear k1 k2 k3 FC
    cases h1 : amongB a (kindN la)
    case' true => cases h2 : amongB b (kindN lb)
    case' true.true => cases h3 : amongB c (kindN lc)
    case' true.true.true => cases fr
    case' true.true.true.false => cases h5 : (n == 0)
    case true.true.true.false.false =>
      have H := hid (show mayB ⟨op, a, b, c, n⟩ = false by rw [HM, h1, h2, h3]; simpa using h5)
      clear HM
      go_enter Tryz.func59, Tryz.ntmps59
      go_wp2_with (first | (go_at_call 83; (with_reducible refine (FC'.out _).mono ?_); rintro e w' ⟨rfl, rfl⟩) | (go_at_call 84; (with_reducible refine (field_any _ _ _ K1.out).mono ?_); rintro e w1 ⟨rfl, b1⟩; obtain ⟨c1, g1, s1⟩ := bcell b1 (size_alloc1 _ _); have z1 : w.heap.size < w1.heap.size := Nat.lt_of_lt_of_le (Nat.lt_succ_self _) s1) | (go_at_call 84; (with_reducible refine (field_any _ _ _ K2.out).mono ?_); rintro e w2 ⟨rfl, b2⟩; obtain ⟨c2, g2, s2⟩ := bcell b2 rfl; have z2 : w.heap.size < w2.heap.size := Nat.lt_of_lt_of_le z1 s2) | (go_at_call 84; (with_reducible refine (field_any _ _ _ K3.out).mono ?_); rintro e w3 ⟨rfl, b3⟩; obtain ⟨c3, g3, s3⟩ := bcell b3 rfl; have z3 : w.heap.size < w3.heap.size := Nat.lt_of_lt_of_le z2 s3))
      go_ret
      exact ⟨by rw [H.out]; rfl, bthen (bthen (bthen (bnew (bid _) _) b1) b2) b3⟩
    case true.true.true.false.true =>
      have H := hid (show mayB ⟨op, a, b, c, n⟩ = true by rw [HM, h1, h2, h3]; simpa using h5)
      clear HM
      go_enter Tryz.func59, Tryz.ntmps59
      go_wp2_with (first | (go_at_call 83; (with_reducible refine (FC'.out _).mono ?_); rintro e w' ⟨rfl, rfl⟩) | (go_at_call 84; (with_reducible refine (field_any _ _ _ K1.out).mono ?_); rintro e w1 ⟨rfl, b1⟩; obtain ⟨c1, g1, s1⟩ := bcell b1 (size_alloc1 _ _); have z1 : w.heap.size < w1.heap.size := Nat.lt_of_lt_of_le (Nat.lt_succ_self _) s1) | (go_at_call 84; (with_reducible refine (field_any _ _ _ K2.out).mono ?_); rintro e w2 ⟨rfl, b2⟩; obtain ⟨c2, g2, s2⟩ := bcell b2 rfl; have z2 : w.heap.size < w2.heap.size := Nat.lt_of_lt_of_le z1 s2) | (go_at_call 84; (with_reducible refine (field_any _ _ _ K3.out).mono ?_); rintro e w3 ⟨rfl, b3⟩; obtain ⟨c3, g3, s3⟩ := bcell b3 rfl; have z3 : w.heap.size < w3.heap.size := Nat.lt_of_lt_of_le z2 s3))
      go_ret
      exact ⟨by rw [H.out]; rfl, bthen (bthen (bthen (bnew (bid _) _) b1) b2) b3⟩
    case true.true.true.true =>
      have H := hid (show mayB ⟨op, a, b, c, n⟩ = true by rw [HM, h1, h2, h3]; rfl)
      clear HM
      go_enter Tryz.func59, Tryz.ntmps59
      go_wp2_with (first | (go_at_call 83; (with_reducible refine (FC'.out _).mono ?_); rintro e w' ⟨rfl, rfl⟩) | (go_at_call 84; (with_reducible refine (field_any _ _ _ K1.out).mono ?_); rintro e w1 ⟨rfl, b1⟩; obtain ⟨c1, g1, s1⟩ := bcell b1 (size_alloc1 _ _); have z1 : w.heap.size < w1.heap.size := Nat.lt_of_lt_of_le (Nat.lt_succ_self _) s1) | (go_at_call 84; (with_reducible refine (field_any _ _ _ K2.out).mono ?_); rintro e w2 ⟨rfl, b2⟩; obtain ⟨c2, g2, s2⟩ := bcell b2 rfl; have z2 : w.heap.size < w2.heap.size := Nat.lt_of_lt_of_le z1 s2) | (go_at_call 84; (with_reducible refine (field_any _ _ _ K3.out).mono ?_); rintro e w3 ⟨rfl, b3⟩; obtain ⟨c3, g3, s3⟩ := bcell b3 rfl; have z3 : w.heap.size < w3.heap.size := Nat.lt_of_lt_of_le z2 s3))
      go_ret
      exact ⟨by rw [H.out]; rfl, bthen (bthen (bthen (bnew (bid _) _) b1) b2) b3⟩
    all_goals
      have H := hid (show mayB ⟨op, a, b, c, n⟩ = false by rw [HM]; simp [*])
      clear HM
      go_enter Tryz.func59, Tryz.ntmps59
      go_wp2_with (first | (go_at_call 83; (with_reducible refine (FC'.out _).mono ?_); rintro e w' ⟨rfl, rfl⟩) | (go_at_call 84; (with_reducible refine (field_any _ _ _ K1.out).mono ?_); rintro e w1 ⟨rfl, b1⟩; obtain ⟨c1, g1, s1⟩ := bcell b1 (size_alloc1 _ _); have z1 : w.heap.size < w1.heap.size := Nat.lt_of_lt_of_le (Nat.lt_succ_self _) s1) | (go_at_call 84; (with_reducible refine (field_any _ _ _ K2.out).mono ?_); rintro e w2 ⟨rfl, b2⟩; obtain ⟨c2, g2, s2⟩ := bcell b2 rfl; have z2 : w.heap.size < w2.heap.size := Nat.lt_of_lt_of_le z1 s2) | (go_at_call 84; (with_reducible refine (field_any _ _ _ K3.out).mono ?_); rintro e w3 ⟨rfl, b3⟩; obtain ⟨c3, g3, s3⟩ := bcell b3 rfl; have z3 : w.heap.size < w3.heap.size := Nat.lt_of_lt_of_le z2 s3))
      go_ret
      first
        | exact ⟨by rw [H.out]; rfl, bthen (bthen (bthen (bnew (bid _) _) b1) b2) b3⟩
        | exact ⟨by rw [H.out]; rfl, bthen (bthen (bnew (bid _) _) b1) b2⟩
        | exact ⟨by rw [H.out]; rfl, bthen (bnew (bid _) _) b1⟩

end Go.Proofs.YtbobjhadckeieaaGreatDoor
