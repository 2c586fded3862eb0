/-
  TextLimits: the plain texts.
-/
import Derived.Test.YtbobjhadckeieaaGreatDoorTParse3
namespace Go.Proofs.YtbobjhadckeieaaGreatDoor
open Go.RowKit
set_option linter.unusedVariables false

def leaveL : List UInt8 := [108, 101, 97, 118, 101]
def leaveI : Ins := ⟨14, 0, 0, 0, 0⟩
theorem leave_instr : instrOf leaveL = some leaveI := by kernel_rfl
/-- So many times a line, and an empty one. -/
def lvT : Nat → List UInt8
  | 0 => []
  | k + 1 => leaveL ++ 10 :: (10 :: lvT k)
theorem lvT_snoc : ∀ k, lvT k ++ [108, 101, 97, 118, 101, 10, 10] = lvT (k + 1) := by
  intro k
  induction k with
  | zero => rfl
  | succ k ih =>
    show (leaveL ++ 10 :: (10 :: lvT k)) ++ _ = leaveL ++ 10 :: (10 :: lvT (k + 1))
    rw [← ih]
    simp
theorem lvT_len : ∀ k, (lvT k).length = 7 * k := by
  intro k
  induction k with
  | zero => rfl
  | succ k ih =>
    show (leaveL ++ 10 :: (10 :: lvT k)).length = _
    rw [List.length_append, List.length_cons, List.length_cons, ih]
    show 5 + _ = _
    omega
def lvC : Nat → List (List UInt8)
  | 0 => [[]]
  | k + 1 => leaveL :: [] :: lvC k
theorem lv_cut : ∀ k, cutAt 10 (lvT k) = lvC k := by
  intro k
  induction k with
  | zero => rfl
  | succ k ih =>
    show cutAt 10 (leaveL ++ 10 :: (10 :: lvT k)) = leaveL :: [] :: lvC k
    rw [cutAt_hit (by decide), ← ih]
    exact congrArg _ (cutAt_hit (pre := []) (by simp) (lvT k))
theorem lines_leave (r : List (List UInt8)) (ps : List Ins) (h : linesOf r = some ps) : linesOf (leaveL :: [] :: r) = some (leaveI :: ps) := by
  have e : linesOf ([] :: r) = some ps := h
  show (if leaveL = [] then linesOf ([] :: r) else match instrOf leaveL, linesOf ([] :: r) with
    | some i, some ps => some (i :: ps)
    | _, _ => none) = _
  rw [if_neg (by decide), leave_instr, e]
theorem lv_lines : ∀ k, linesOf (lvC k) = some (List.replicate k leaveI) := by
  intro k
  induction k with
  | zero => rfl
  | succ k ih => exact lines_leave _ _ ih
theorem lv_take : ∀ m k, linesOf ((lvC (m + k)).take (2 * m)) = some (List.replicate m leaveI) := by
  intro m
  induction m with
  | zero => intro k; rfl
  | succ m ih =>
    intro k
    rw [show m + 1 + k = (m + k) + 1 by omega, show 2 * (m + 1) = 2 * m + 1 + 1 by omega]
    show linesOf (leaveL :: [] :: (lvC (m + k)).take (2 * m)) = _
    exact lines_leave _ _ (ih k)
theorem lv_at : ∀ m k, (lvC (m + (k + 1)))[2 * m]? = some leaveL := by
  intro m
  induction m with
  | zero =>
    intro k
    rw [Nat.zero_add]
    rfl
  | succ m ih =>
    intro k
    rw [show m + 1 + (k + 1) = (m + (k + 1)) + 1 by omega, show 2 * (m + 1) = 2 * m + 1 + 1 by omega]
    show (leaveL :: [] :: lvC (m + (k + 1)))[2 * m + 1 + 1]? = _
    rw [List.getElem?_cons_succ, List.getElem?_cons_succ]
    exact ih k
theorem lv_mem : ∀ k l, l ∈ lvC k → l = [] ∨ l = leaveL := by
  intro k
  induction k with
  | zero => intro l h; left; simpa [lvC] using h
  | succ k ih =>
    intro l h
    rcases List.mem_cons.1 h with h | h
    · exact .inr h
    · rcases List.mem_cons.1 h with h | h
      · exact .inl h
      · exact ih l h
theorem nl_cut : ∀ m, cutAt 10 (List.replicate m 10) = List.replicate (m + 1) [] := by
  intro m
  induction m with
  | zero => rfl
  | succ m ih =>
    rw [List.replicate_succ, List.replicate_succ, ← ih]
    exact cutAt_hit (pre := []) (by simp) _
theorem nl_lines : ∀ m, linesOf (List.replicate m []) = some [] := by
  intro m
  induction m with
  | zero => rfl
  | succ m ih => exact ih

theorem lv_good (k : Nat) (hk : k ≤ 48) (w : World) (ht : Tabs w) : Calls Tryz.prog 12 #[.string (bsOf (lvT k))] w (ParseRet (List.replicate k leaveI) w) :=
  Parse_good (lvT k) _ (by rw [lv_cut]; exact lv_lines k) (by simpa using hk) (by rw [lvT_len]; omega) w ht
theorem lv_many (k : Nat) (h1 : 48 < k) (h2 : k ≤ 50) (w : World) (ht : Tabs w) {sb : Nat → Addr} (hS : Sents w sb) : Calls Tryz.prog 12 #[.string (bsOf (lvT k))] w (ParseBadRet 97 (sb 4) w) := by
  obtain ⟨j, rfl⟩ : ∃ j, k = 48 + (j + 1) := ⟨k - 49, by omega⟩
  exact Parse_many (lvT (48 + (j + 1))) 96 leaveL leaveI (List.replicate 48 leaveI) (by rw [lv_cut]; exact lv_at 48 j) (by decide) leave_instr (by rw [lv_cut]; exact lv_take 48 (j + 1)) (by simp) (fun i l _ hl => by
    rw [lv_cut] at hl
    rcases lv_mem _ l (List.mem_of_getElem? hl) with h | h
    · exact .inl h
    · exact .inr ⟨leaveI, by rw [h]; exact leave_instr⟩) (by rw [lvT_len]; omega) w ht hS
theorem nl_good (m : Nat) (hm : m ≤ 20000) (w : World) (ht : Tabs w) : Calls Tryz.prog 12 #[.string (bsOf (List.replicate m 10))] w (ParseRet [] w) :=
  Parse_good (List.replicate m 10) [] (by rw [nl_cut]; exact nl_lines _) (by simp) (by simpa using hm) w ht
theorem nl_long (m : Nat) (h1 : 20000 < m) (h2 : m ≤ 100000) (w : World) {sb : Nat → Addr} (hS : Sents w sb) : Calls Tryz.prog 12 #[.string (bsOf (List.replicate m 10))] w (ParseBadRet 0 (sb 4) w) :=
  Parse_long (List.replicate m 10) (by simpa using h1) (by simpa using h2) w hS

end Go.Proofs.YtbobjhadckeieaaGreatDoor
