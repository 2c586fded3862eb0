/-
  TextWhere: the plain text.
-/
import Derived.Test.YtbobjhadckeieaaGreatDoorTBack
import Derived.Test.YtbobjhadckeieaaGreatDoorTParse2
namespace Go.Proofs.YtbobjhadckeieaaGreatDoor
open Go.RowKit
set_option linter.unusedVariables false

def badWs : List (List UInt8) := [
  [108, 111, 103],
  [108, 111, 103, 32, 52],
  [108, 111, 103, 32, 32, 49],
  [32, 108, 111, 103, 32, 49],
  [108, 111, 103, 32, 49, 32],
  [115, 101, 116, 32, 48, 32, 48, 48],
  [115, 101, 116, 32, 48, 32, 45, 48],
  [115, 101, 116, 32, 48, 32, 57, 50, 50, 51, 51, 55, 50, 48, 51, 54, 56, 53, 52, 55, 55, 53, 56, 48, 56],
  [108, 101, 97, 118, 101, 32, 48],
  [76, 111, 103, 32, 49],
  [115, 101, 116, 32, 48, 32, 43, 49],
  [101, 110, 116, 101, 114, 32, 49, 32, 48],
  [108, 111, 32, 103]]
theorem bad_0 : instrOf [108, 111, 103] = none := by kernel_rfl
theorem bad_1 : instrOf [108, 111, 103, 32, 52] = none := by kernel_rfl
theorem bad_2 : instrOf [108, 111, 103, 32, 32, 49] = none := by kernel_rfl
theorem bad_3 : instrOf [32, 108, 111, 103, 32, 49] = none := by kernel_rfl
theorem bad_4 : instrOf [108, 111, 103, 32, 49, 32] = none := by kernel_rfl
theorem bad_5 : instrOf [115, 101, 116, 32, 48, 32, 48, 48] = none := by kernel_rfl
theorem bad_6 : instrOf [115, 101, 116, 32, 48, 32, 45, 48] = none := by kernel_rfl
theorem bad_7 : instrOf [115, 101, 116, 32, 48, 32, 57, 50, 50, 51, 51, 55, 50, 48, 51, 54, 56, 53, 52, 55, 55, 53, 56, 48, 56] = none := by kernel_rfl
theorem bad_8 : instrOf [108, 101, 97, 118, 101, 32, 48] = none := by kernel_rfl
theorem bad_9 : instrOf [76, 111, 103, 32, 49] = none := by kernel_rfl
theorem bad_10 : instrOf [115, 101, 116, 32, 48, 32, 43, 49] = none := by kernel_rfl
theorem bad_11 : instrOf [101, 110, 116, 101, 114, 32, 49, 32, 48] = none := by kernel_rfl
theorem bad_12 : instrOf [108, 111, 32, 103] = none := by kernel_rfl
theorem bad_none : ∀ l ∈ badWs, instrOf l = none := by
  intro l hl
  simp only [badWs, List.mem_cons, List.not_mem_nil, or_false] at hl
  rcases hl with rfl | rfl | rfl | rfl | rfl | rfl | rfl | rfl | rfl | rfl | rfl | rfl | rfl
  · exact bad_0
  · exact bad_1
  · exact bad_2
  · exact bad_3
  · exact bad_4
  · exact bad_5
  · exact bad_6
  · exact bad_7
  · exact bad_8
  · exact bad_9
  · exact bad_10
  · exact bad_11
  · exact bad_12
theorem bad_clean : ∀ l ∈ badWs, 10 ∉ l ∧ l ≠ [] ∧ l.length ≤ 25 := by decide

def logL (i : Nat) : List UInt8 := [108, 111, 103, 32] ++ Lib.itoa ((i % 4 : Nat) : Int)
def logI (i : Nat) : Ins := ⟨12, ((i % 4 : Nat) : Int), 0, 0, 0⟩
theorem log_may (i : Nat) : mayB (logI i) = true := by
  have : i % 4 = 0 ∨ i % 4 = 1 ∨ i % 4 = 2 ∨ i % 4 = 3 := by omega
  unfold logI
  rcases this with h | h | h | h <;> rw [h] <;> decide
theorem log_line (i : Nat) : lineL (logI i) = logL i := by
  unfold lineL
  rw [if_pos (log_may i)]
  simp [logI, logL, spellL, shps, sfits, List.find?, tailF, getF]
theorem log_back (i : Nat) : instrOf (logL i) = some (logI i) := by
  rw [← log_line]
  exact instr_back _ (log_may i) ⟨by simp [logI], by simp [logI]⟩
theorem log_no_end (i : Nat) : 10 ∉ logL i := by
  rw [← log_line]
  exact line_no_end _ (log_may i)
theorem log_len (i : Nat) : (logL i).length = 5 := by
  have : i % 4 = 0 ∨ i % 4 = 1 ∨ i % 4 = 2 ∨ i % 4 = 3 := by omega
  unfold logL Lib.itoa
  rw [if_neg (by omega), Int.toNat_natCast, decDigits_small (by omega)]
  rfl
theorem log_ne (i : Nat) : logL i ≠ [] := by simp [logL]

/-- So many empty lines. -/
def gapsN (n : Nat) : List UInt8 := List.replicate n 10
/-- So many good lines behind a start. -/
def logsN (g : Nat) : List UInt8 := (List.range g).flatMap fun i => logL i ++ [10]
theorem logsN_succ (g : Nat) : logsN (g + 1) = logsN g ++ (logL g ++ [10]) := by simp [logsN, List.range_succ]
theorem logsN_len (g : Nat) : (logsN g).length = 6 * g := by
  induction g with
  | zero => rfl
  | succ g ih => rw [logsN_succ, List.length_append, ih, List.length_append, log_len]; simp; omega
theorem cut_gapsN (n : Nat) (t : List UInt8) : cutAt 10 (gapsN n ++ t) = List.replicate n [] ++ cutAt 10 t := by
  induction n with
  | zero => rfl
  | succ n ih =>
    have e : gapsN (n + 1) ++ t = [] ++ 10 :: (gapsN n ++ t) := by simp [gapsN, List.replicate_succ]
    rw [e, cutAt_hit (by simp), ih]
    rfl
theorem cut_logs (l : List Nat) (t : List UInt8) : cutAt 10 ((l.flatMap fun i => logL i ++ [10]) ++ t) = l.map logL ++ cutAt 10 t := by
  induction l with
  | nil => rfl
  | cons i l ih =>
    have e : ((i :: l).flatMap fun i => logL i ++ [10]) ++ t = logL i ++ 10 :: ((l.flatMap fun i => logL i ++ [10]) ++ t) := by simp
    rw [e, cutAt_hit (log_no_end i), ih]
    rfl
/-- The text of the law. -/
def whereL (n g : Nat) (b : List UInt8) : List UInt8 := gapsN n ++ logsN g ++ (b ++ [10, 108, 101, 97, 118, 101, 10])
theorem cut_where (n g : Nat) (b : List UInt8) (hb : 10 ∉ b) : cutAt 10 (whereL n g b) = (List.replicate n [] ++ (List.range g).map logL) ++ [b, [108, 101, 97, 118, 101], []] := by
  have e : b ++ [10, 108, 101, 97, 118, 101, 10] = b ++ 10 :: ([108, 101, 97, 118, 101] ++ 10 :: []) := rfl
  unfold whereL
  rw [List.append_assoc, cut_gapsN, e, logsN, cut_logs, cutAt_hit hb, cutAt_hit (by decide)]
  simp [cutAt]
theorem lines_logs (l : List Nat) : linesOf (l.map logL) = some (l.map logI) := by
  induction l with
  | nil => rfl
  | cons i l ih => rw [List.map_cons, linesOf, if_neg (log_ne i), log_back, ih]; rfl
theorem lines_where (n g : Nat) : linesOf (List.replicate n [] ++ (List.range g).map logL) = some ((List.range g).map logI) := by
  induction n with
  | zero => exact lines_logs _
  | succ n ih => rw [List.replicate_succ, List.cons_append, linesOf, if_pos rfl, ih]
theorem where_at (n g : Nat) (b : List UInt8) (hb : 10 ∉ b) : (cutAt 10 (whereL n g b))[n + g]? = some b ∧ linesOf ((cutAt 10 (whereL n g b)).take (n + g)) = some ((List.range g).map logI) := by
  have hl : (List.replicate n ([] : List UInt8) ++ (List.range g).map logL).length = n + g := by simp
  rw [cut_where n g b hb]
  refine ⟨?_, ?_⟩
  · rw [List.getElem?_append_right (by omega), hl, Nat.sub_self]; rfl
  · rw [List.take_append_of_le_length (by omega), List.take_of_length_le (by omega)]
    exact lines_where n g
theorem where_len (n g : Nat) (b : List UInt8) : (whereL n g b).length = n + 6 * g + b.length + 7 := by
  unfold whereL
  rw [List.length_append, List.length_append, logsN_len, List.length_append]
  simp [gapsN]
  omega

end Go.Proofs.YtbobjhadckeieaaGreatDoor
