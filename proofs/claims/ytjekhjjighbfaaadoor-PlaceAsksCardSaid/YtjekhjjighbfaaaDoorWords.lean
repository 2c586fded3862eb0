/-
  The words of a name: kindName, partName, condPart.
-/
import Derived.Test.YtjekhjjighbfaaaDoorFind
import Derived.Lib.ItoaNum
namespace Go.Proofs.YtjekhjjighbfaaaDoor
open Go.RowKit

/-- A number from 0 to 99 in digits. -/
def dd (n : Nat) : List UInt8 := if n < 10 then [UInt8.ofNat (48 + n)] else [UInt8.ofNat (48 + n / 10), UInt8.ofNat (48 + n % 10)]
theorem dd_eq {n : Nat} (h : n < 100) : Lib.decDigits n = dd n := by
  unfold dd
  by_cases h1 : n < 10
  · rw [if_pos h1, Lib.decDigits_one h1]
  · rw [if_neg h1, Lib.decDigits_two h1 h]

theorem itoa_any (n : Nat) (h : n < 100) (w : World) : Calls Tryd.prog 46 #[.int .i64 (n : Int)] w fun e w' => e = .returned (.string ⟨(dd n).toArray⟩) ∧ w = w' := by
  rw [← dd_eq h]
  exact (Tryd.strconv_Itoa_small n h w).mono fun _ _ ⟨h1, h2⟩ => ⟨h1, h2.symm⟩

def kindL : Nat → Nat → List UInt8
  | 0, _ => [99, 108, 111, 99, 107]
  | 1, _ => [115, 101, 113]
  | 2, _ => [115, 116, 114, 105, 112, 101]
  | 3, _ => [108, 111, 99, 107]
  | 4, _ => [116, 104, 114, 101, 97, 100]
  | 5, _ => [110, 111, 100, 101]
  | 6, _ => [102, 108, 97, 103]
  | 7, _ => [99, 111, 110, 100]
  | _, 0 => [100, 97, 116, 97]
  | _, _ => [111, 119, 110, 101, 114]
def partL : Nat → Nat → List UInt8
  | 3, 0 => [116, 97, 105, 108]
  | 3, 1 => [110, 101, 120, 116]
  | 3, 2 => [115, 101, 114, 118, 105, 110, 103]
  | 3, 3 => [114, 101, 97, 100, 101, 114, 115]
  | 3, 4 => [119, 111, 114, 100]
  | 3, 5 => [99, 111, 117, 110, 116]
  | 4, 0 => [112, 104, 97, 115, 101]
  | 4, 1 => [101, 112, 111, 99, 104]
  | 5, 0 => [103, 97, 116, 101]
  | 5, 1 => [108, 105, 110, 107]
  | _, 0 => [104, 101, 97, 100]
  | _, 1 => [101, 110, 100]
  | _, p => [115, 108, 111, 116, 32] ++ dd (p - 2)

theorem dd_len (n : Nat) : (dd n).length ≤ 2 := by unfold dd; split <;> simp
theorem kindL_len (k p : Nat) : (kindL k p).length ≤ 6 := by unfold kindL; split <;> simp
theorem partL_len (k p : Nat) : (partL k p).length ≤ 7 := by
  unfold partL
  split <;> simp
  have := dd_len (p - 2)
  omega
/-- Two texts, one behind the other. -/
theorem bapp (a b : List UInt8) : (⟨a.toArray⟩ : ByteArray) ++ ⟨b.toArray⟩ = ⟨(a ++ b).toArray⟩ := by
  apply ByteArray.ext
  simp

theorem kindName0 (p : Int) (w : World) : Calls Tryd.prog 45 #[.int .i64 0, .int .i64 p] w fun e w' => e = .returned (.string ⟨(kindL 0 0).toArray⟩) ∧ w = w' := by
  go_enter Tryd.func45, Tryd.ntmps45
  go_wp2
  go_ret
  exact ⟨rfl, rfl⟩
theorem kindName1 (p : Int) (w : World) : Calls Tryd.prog 45 #[.int .i64 1, .int .i64 p] w fun e w' => e = .returned (.string ⟨(kindL 1 0).toArray⟩) ∧ w = w' := by
  go_enter Tryd.func45, Tryd.ntmps45
  go_wp2
  go_ret
  exact ⟨rfl, rfl⟩
theorem kindName2 (p : Int) (w : World) : Calls Tryd.prog 45 #[.int .i64 2, .int .i64 p] w fun e w' => e = .returned (.string ⟨(kindL 2 0).toArray⟩) ∧ w = w' := by
  go_enter Tryd.func45, Tryd.ntmps45
  go_wp2
  go_ret
  exact ⟨rfl, rfl⟩
theorem kindName3 (p : Int) (w : World) : Calls Tryd.prog 45 #[.int .i64 3, .int .i64 p] w fun e w' => e = .returned (.string ⟨(kindL 3 0).toArray⟩) ∧ w = w' := by
  go_enter Tryd.func45, Tryd.ntmps45
  go_wp2
  go_ret
  exact ⟨rfl, rfl⟩
theorem kindName4 (p : Int) (w : World) : Calls Tryd.prog 45 #[.int .i64 4, .int .i64 p] w fun e w' => e = .returned (.string ⟨(kindL 4 0).toArray⟩) ∧ w = w' := by
  go_enter Tryd.func45, Tryd.ntmps45
  go_wp2
  go_ret
  exact ⟨rfl, rfl⟩
theorem kindName5 (p : Int) (w : World) : Calls Tryd.prog 45 #[.int .i64 5, .int .i64 p] w fun e w' => e = .returned (.string ⟨(kindL 5 0).toArray⟩) ∧ w = w' := by
  go_enter Tryd.func45, Tryd.ntmps45
  go_wp2
  go_ret
  exact ⟨rfl, rfl⟩
theorem kindName6 (p : Int) (w : World) : Calls Tryd.prog 45 #[.int .i64 6, .int .i64 p] w fun e w' => e = .returned (.string ⟨(kindL 6 0).toArray⟩) ∧ w = w' := by
  go_enter Tryd.func45, Tryd.ntmps45
  go_wp2
  go_ret
  exact ⟨rfl, rfl⟩
theorem kindName7 (p : Int) (w : World) : Calls Tryd.prog 45 #[.int .i64 7, .int .i64 p] w fun e w' => e = .returned (.string ⟨(kindL 7 0).toArray⟩) ∧ w = w' := by
  go_enter Tryd.func45, Tryd.ntmps45
  go_wp2
  go_ret
  exact ⟨rfl, rfl⟩
theorem kindName8_0 (w : World) : Calls Tryd.prog 45 #[.int .i64 8, .int .i64 0] w fun e w' => e = .returned (.string ⟨(kindL 8 0).toArray⟩) ∧ w = w' := by
  have hx : ∀ W, (Instr.index 63 (.agg #[.string ⟨#[100, 97, 116, 97]⟩, .string ⟨#[111, 119, 110, 101, 114]⟩]) (.int .i64 0)).run Tryd.prog W = .ok (.string ⟨(kindL 8 0).toArray⟩) W := fun _ => by kernel_rfl
  go_enter Tryd.func45, Tryd.ntmps45
  go_wp2
  go_ret
  exact ⟨rfl, rfl⟩
theorem kindName8_1 (w : World) : Calls Tryd.prog 45 #[.int .i64 8, .int .i64 1] w fun e w' => e = .returned (.string ⟨(kindL 8 1).toArray⟩) ∧ w = w' := by
  have hx : ∀ W, (Instr.index 63 (.agg #[.string ⟨#[100, 97, 116, 97]⟩, .string ⟨#[111, 119, 110, 101, 114]⟩]) (.int .i64 1)).run Tryd.prog W = .ok (.string ⟨(kindL 8 1).toArray⟩) W := fun _ => by kernel_rfl
  go_enter Tryd.func45, Tryd.ntmps45
  go_wp2
  go_ret
  exact ⟨rfl, rfl⟩
theorem kindName8 (p : Nat) (hp : p < 2) (q : Int) (hq : q = p) (w : World) : Calls Tryd.prog 45 #[.int .i64 8, .int .i64 q] w fun e w' => e = .returned (.string ⟨(kindL 8 p).toArray⟩) ∧ w = w' := by
  have h : (q = 0 ∧ p = 0) ∨ (q = 1 ∧ p = 1) := by omega
  rcases h with ⟨rfl, rfl⟩ | ⟨rfl, rfl⟩
  · exact kindName8_0 w
  · exact kindName8_1 w
theorem partName3_0 (w : World) : Calls Tryd.prog 47 #[.int .i64 3, .int .i64 0] w fun e w' => e = .returned (.string ⟨(partL 3 0).toArray⟩) ∧ w = w' := by
  have hx : ∀ W, (Instr.index 64 (.agg #[.string ⟨#[116, 97, 105, 108]⟩, .string ⟨#[110, 101, 120, 116]⟩, .string ⟨#[115, 101, 114, 118, 105, 110, 103]⟩, .string ⟨#[114, 101, 97, 100, 101, 114, 115]⟩, .string ⟨#[119, 111, 114, 100]⟩, .string ⟨#[99, 111, 117, 110, 116]⟩]) (.int .i64 0)).run Tryd.prog W = .ok (.string ⟨(partL 3 0).toArray⟩) W := fun _ => by kernel_rfl
  go_enter Tryd.func47, Tryd.ntmps47
  go_wp2
  go_ret
  exact ⟨rfl, rfl⟩
theorem partName3_1 (w : World) : Calls Tryd.prog 47 #[.int .i64 3, .int .i64 1] w fun e w' => e = .returned (.string ⟨(partL 3 1).toArray⟩) ∧ w = w' := by
  have hx : ∀ W, (Instr.index 64 (.agg #[.string ⟨#[116, 97, 105, 108]⟩, .string ⟨#[110, 101, 120, 116]⟩, .string ⟨#[115, 101, 114, 118, 105, 110, 103]⟩, .string ⟨#[114, 101, 97, 100, 101, 114, 115]⟩, .string ⟨#[119, 111, 114, 100]⟩, .string ⟨#[99, 111, 117, 110, 116]⟩]) (.int .i64 1)).run Tryd.prog W = .ok (.string ⟨(partL 3 1).toArray⟩) W := fun _ => by kernel_rfl
  go_enter Tryd.func47, Tryd.ntmps47
  go_wp2
  go_ret
  exact ⟨rfl, rfl⟩
theorem partName3_2 (w : World) : Calls Tryd.prog 47 #[.int .i64 3, .int .i64 2] w fun e w' => e = .returned (.string ⟨(partL 3 2).toArray⟩) ∧ w = w' := by
  have hx : ∀ W, (Instr.index 64 (.agg #[.string ⟨#[116, 97, 105, 108]⟩, .string ⟨#[110, 101, 120, 116]⟩, .string ⟨#[115, 101, 114, 118, 105, 110, 103]⟩, .string ⟨#[114, 101, 97, 100, 101, 114, 115]⟩, .string ⟨#[119, 111, 114, 100]⟩, .string ⟨#[99, 111, 117, 110, 116]⟩]) (.int .i64 2)).run Tryd.prog W = .ok (.string ⟨(partL 3 2).toArray⟩) W := fun _ => by kernel_rfl
  go_enter Tryd.func47, Tryd.ntmps47
  go_wp2
  go_ret
  exact ⟨rfl, rfl⟩
theorem partName3_3 (w : World) : Calls Tryd.prog 47 #[.int .i64 3, .int .i64 3] w fun e w' => e = .returned (.string ⟨(partL 3 3).toArray⟩) ∧ w = w' := by
  have hx : ∀ W, (Instr.index 64 (.agg #[.string ⟨#[116, 97, 105, 108]⟩, .string ⟨#[110, 101, 120, 116]⟩, .string ⟨#[115, 101, 114, 118, 105, 110, 103]⟩, .string ⟨#[114, 101, 97, 100, 101, 114, 115]⟩, .string ⟨#[119, 111, 114, 100]⟩, .string ⟨#[99, 111, 117, 110, 116]⟩]) (.int .i64 3)).run Tryd.prog W = .ok (.string ⟨(partL 3 3).toArray⟩) W := fun _ => by kernel_rfl
  go_enter Tryd.func47, Tryd.ntmps47
  go_wp2
  go_ret
  exact ⟨rfl, rfl⟩
theorem partName3_4 (w : World) : Calls Tryd.prog 47 #[.int .i64 3, .int .i64 4] w fun e w' => e = .returned (.string ⟨(partL 3 4).toArray⟩) ∧ w = w' := by
  have hx : ∀ W, (Instr.index 64 (.agg #[.string ⟨#[116, 97, 105, 108]⟩, .string ⟨#[110, 101, 120, 116]⟩, .string ⟨#[115, 101, 114, 118, 105, 110, 103]⟩, .string ⟨#[114, 101, 97, 100, 101, 114, 115]⟩, .string ⟨#[119, 111, 114, 100]⟩, .string ⟨#[99, 111, 117, 110, 116]⟩]) (.int .i64 4)).run Tryd.prog W = .ok (.string ⟨(partL 3 4).toArray⟩) W := fun _ => by kernel_rfl
  go_enter Tryd.func47, Tryd.ntmps47
  go_wp2
  go_ret
  exact ⟨rfl, rfl⟩
theorem partName3_5 (w : World) : Calls Tryd.prog 47 #[.int .i64 3, .int .i64 5] w fun e w' => e = .returned (.string ⟨(partL 3 5).toArray⟩) ∧ w = w' := by
  have hx : ∀ W, (Instr.index 64 (.agg #[.string ⟨#[116, 97, 105, 108]⟩, .string ⟨#[110, 101, 120, 116]⟩, .string ⟨#[115, 101, 114, 118, 105, 110, 103]⟩, .string ⟨#[114, 101, 97, 100, 101, 114, 115]⟩, .string ⟨#[119, 111, 114, 100]⟩, .string ⟨#[99, 111, 117, 110, 116]⟩]) (.int .i64 5)).run Tryd.prog W = .ok (.string ⟨(partL 3 5).toArray⟩) W := fun _ => by kernel_rfl
  go_enter Tryd.func47, Tryd.ntmps47
  go_wp2
  go_ret
  exact ⟨rfl, rfl⟩
theorem partName3 (p : Nat) (hp : p < 6) (q : Int) (hq : q = p) (w : World) : Calls Tryd.prog 47 #[.int .i64 3, .int .i64 q] w fun e w' => e = .returned (.string ⟨(partL 3 p).toArray⟩) ∧ w = w' := by
  have h : (q = 0 ∧ p = 0) ∨ (q = 1 ∧ p = 1) ∨ (q = 2 ∧ p = 2) ∨ (q = 3 ∧ p = 3) ∨ (q = 4 ∧ p = 4) ∨ (q = 5 ∧ p = 5) := by omega
  rcases h with ⟨rfl, rfl⟩ | ⟨rfl, rfl⟩ | ⟨rfl, rfl⟩ | ⟨rfl, rfl⟩ | ⟨rfl, rfl⟩ | ⟨rfl, rfl⟩
  · exact partName3_0 w
  · exact partName3_1 w
  · exact partName3_2 w
  · exact partName3_3 w
  · exact partName3_4 w
  · exact partName3_5 w
theorem partName4_0 (w : World) : Calls Tryd.prog 47 #[.int .i64 4, .int .i64 0] w fun e w' => e = .returned (.string ⟨(partL 4 0).toArray⟩) ∧ w = w' := by
  have hx : ∀ W, (Instr.index 63 (.agg #[.string ⟨#[112, 104, 97, 115, 101]⟩, .string ⟨#[101, 112, 111, 99, 104]⟩]) (.int .i64 0)).run Tryd.prog W = .ok (.string ⟨(partL 4 0).toArray⟩) W := fun _ => by kernel_rfl
  go_enter Tryd.func47, Tryd.ntmps47
  go_wp2
  go_ret
  exact ⟨rfl, rfl⟩
theorem partName4_1 (w : World) : Calls Tryd.prog 47 #[.int .i64 4, .int .i64 1] w fun e w' => e = .returned (.string ⟨(partL 4 1).toArray⟩) ∧ w = w' := by
  have hx : ∀ W, (Instr.index 63 (.agg #[.string ⟨#[112, 104, 97, 115, 101]⟩, .string ⟨#[101, 112, 111, 99, 104]⟩]) (.int .i64 1)).run Tryd.prog W = .ok (.string ⟨(partL 4 1).toArray⟩) W := fun _ => by kernel_rfl
  go_enter Tryd.func47, Tryd.ntmps47
  go_wp2
  go_ret
  exact ⟨rfl, rfl⟩
theorem partName4 (p : Nat) (hp : p < 2) (q : Int) (hq : q = p) (w : World) : Calls Tryd.prog 47 #[.int .i64 4, .int .i64 q] w fun e w' => e = .returned (.string ⟨(partL 4 p).toArray⟩) ∧ w = w' := by
  have h : (q = 0 ∧ p = 0) ∨ (q = 1 ∧ p = 1) := by omega
  rcases h with ⟨rfl, rfl⟩ | ⟨rfl, rfl⟩
  · exact partName4_0 w
  · exact partName4_1 w
theorem partName5_0 (w : World) : Calls Tryd.prog 47 #[.int .i64 5, .int .i64 0] w fun e w' => e = .returned (.string ⟨(partL 5 0).toArray⟩) ∧ w = w' := by
  have hx : ∀ W, (Instr.index 63 (.agg #[.string ⟨#[103, 97, 116, 101]⟩, .string ⟨#[108, 105, 110, 107]⟩]) (.int .i64 0)).run Tryd.prog W = .ok (.string ⟨(partL 5 0).toArray⟩) W := fun _ => by kernel_rfl
  go_enter Tryd.func47, Tryd.ntmps47
  go_wp2
  go_ret
  exact ⟨rfl, rfl⟩
theorem partName5_1 (w : World) : Calls Tryd.prog 47 #[.int .i64 5, .int .i64 1] w fun e w' => e = .returned (.string ⟨(partL 5 1).toArray⟩) ∧ w = w' := by
  have hx : ∀ W, (Instr.index 63 (.agg #[.string ⟨#[103, 97, 116, 101]⟩, .string ⟨#[108, 105, 110, 107]⟩]) (.int .i64 1)).run Tryd.prog W = .ok (.string ⟨(partL 5 1).toArray⟩) W := fun _ => by kernel_rfl
  go_enter Tryd.func47, Tryd.ntmps47
  go_wp2
  go_ret
  exact ⟨rfl, rfl⟩
theorem partName5 (p : Nat) (hp : p < 2) (q : Int) (hq : q = p) (w : World) : Calls Tryd.prog 47 #[.int .i64 5, .int .i64 q] w fun e w' => e = .returned (.string ⟨(partL 5 p).toArray⟩) ∧ w = w' := by
  have h : (q = 0 ∧ p = 0) ∨ (q = 1 ∧ p = 1) := by omega
  rcases h with ⟨rfl, rfl⟩ | ⟨rfl, rfl⟩
  · exact partName5_0 w
  · exact partName5_1 w
theorem condPart_any (p : Nat) (hp : p < 6) (q : Int) (hq : q = p) (w : World) : Calls Tryd.prog 50 #[.int .i64 q] w fun e w' => e = .returned (.string ⟨(partL 7 p).toArray⟩) ∧ w = w' := by
  have h : (q = 0 ∧ p = 0) ∨ (q = 1 ∧ p = 1) ∨ (q = 2 ∧ p = 2) ∨ (q = 3 ∧ p = 3) ∨ (q = 4 ∧ p = 4) ∨ (q = 5 ∧ p = 5) := by omega
  clear hq
  rcases h with ⟨rfl, rfl⟩ | ⟨rfl, rfl⟩ | ⟨rfl, rfl⟩ | ⟨rfl, rfl⟩ | ⟨rfl, rfl⟩ | ⟨rfl, rfl⟩
  all_goals
    go_enter Tryd.func50, Tryd.ntmps50
    go_wp2_with (first | (go_at_call 46; first | (refine (itoa_any 0 (by decide) _).mono ?_; rintro e w' ⟨rfl, rfl⟩) | (refine (itoa_any 1 (by decide) _).mono ?_; rintro e w' ⟨rfl, rfl⟩) | (refine (itoa_any 2 (by decide) _).mono ?_; rintro e w' ⟨rfl, rfl⟩) | (refine (itoa_any 3 (by decide) _).mono ?_; rintro e w' ⟨rfl, rfl⟩)))
    go_ret
    exact ⟨rfl, rfl⟩
theorem partName7 (p : Nat) (hp : p < 6) (q : Int) (hq : q = p) (w : World) : Calls Tryd.prog 47 #[.int .i64 7, .int .i64 q] w fun e w' => e = .returned (.string ⟨(partL 7 p).toArray⟩) ∧ w = w' := by
  have H := hid (condPart_any p hp q hq)
  clear hq
  go_enter Tryd.func47, Tryd.ntmps47
  go_wp2_with (go_at_call 50; refine (H.out _).mono ?_; rintro e w' ⟨rfl, rfl⟩)
  go_ret
  exact ⟨rfl, rfl⟩

end Go.Proofs.YtjekhjjighbfaaaDoor
