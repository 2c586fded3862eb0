/-
  The document's example; what two words are compared as.
-/
import Derived.Test.YtppnhcdmaokjcaaRdR
import Derived.Laws.StructEq
namespace Go.Proofs.Ytppnhcdmaokjcaa
open Go.RowKit
attribute [local go_sem] Later.cell Later.frozen

theorem wrap_in {x : Int} (h0 : -9223372036854775808 ≤ x) (h1 : x ≤ 9223372036854775807) : wrap64 x = x := by
  unfold wrap64
  omega
def sameW (p q : Wd) : Bool := p.1 == q.1 && p.2 == q.2
theorem sameW_self (p : Wd) : sameW p p = true := by simp [sameW]
theorem sameW_iff {p q : Wd} : sameW p q = true ↔ p = q := by
  obtain ⟨a, b⟩ := p
  obtain ⟨c, d⟩ := q
  simp [sameW]
theorem eq_word (a b a' b' : Int) (w : World) :
    (binOp .eql 32 (.agg #[.int .i64 a, .int .i64 b]) (.agg #[.int .i64 a', .int .i64 b'])).run Try.prog w = .ok (.bool (sameW (a, b) (a', b'))) w := by
  have u3 := Try.underlying3
  have a3 := Try.isAgg3
  have z3 := Try.sizeOf3
  have u2 := Try.underlying2
  have a2 := Try.isAgg2
  have z2 := Try.sizeOf2
  have hS : Try.prog.underlying 32 = some (.struct (Try.prog.fieldsOf 32)) := by kernel_rfl
  have hp : Try.prog.stoodInHeld 32 = false := by kernel_rfl
  rw [run_eql_struct, show (10000 : Nat) = 9999 + 1 from rfl, run_equalIn_agg w 9999 32 _ _ hS hp]
  simp only [Program.fieldsOf, Try.underlying32]
  go_simp
  unfold sameW
  by_cases h1 : a = a' <;> by_cases h2 : b = b' <;> simp [h1, h2]
theorem neq_word (a b a' b' : Int) (w : World) :
    (binOp .neq 32 (.agg #[.int .i64 a, .int .i64 b]) (.agg #[.int .i64 a', .int .i64 b'])).run Try.prog w = .ok (.bool (!sameW (a, b) (a', b'))) w := by
  have u3 := Try.underlying3
  have a3 := Try.isAgg3
  have z3 := Try.sizeOf3
  have u2 := Try.underlying2
  have a2 := Try.isAgg2
  have z2 := Try.sizeOf2
  have hS : Try.prog.underlying 32 = some (.struct (Try.prog.fieldsOf 32)) := by kernel_rfl
  have hp : Try.prog.stoodInHeld 32 = false := by kernel_rfl
  rw [run_neq_struct, show (10000 : Nat) = 9999 + 1 from rfl, run_equalIn_agg w 9999 32 _ _ hS hp]
  simp only [Program.fieldsOf, Try.underlying32]
  go_simp
  unfold sameW
  by_cases h1 : a = a' <;> by_cases h2 : b = b' <;> simp [h1, h2]
theorem guard_word : Try.prog.eqGuardType Try.prog.depth 32 = false := by kernel_rfl

set_option maxHeartbeats 400000 in
theorem told13_any (w : World) : Calls Try.prog 6 #[] w fun e w' => e = .returned (.bool true) ∧ Below w.heap.size w w' := by
  have HN := hid (fun (W : World) => (show Calls Try.prog 7 #[.int .i64 4] W (NewRet W 4) from New_any 4 W))
  have HP1 := hid (fun (W : World) (b : Nat) (h : SetAt W b 4 []) => (show Calls Try.prog 11 #[.pointer (some ⟨b, 0, none⟩), .int .i64 3, .int .i64 1] W fun e w' => e = .returned (.bool true) ∧ SetAt w' b 4 [(3, 1)] ∧ Wrote (fun j => j = b) W w' from Put_any 3 1 b 4 [] W h))
  have HP2 := hid (fun (W : World) (b : Nat) (h : SetAt W b 4 [(3, 1)]) => (show Calls Try.prog 11 #[.pointer (some ⟨b, 0, none⟩), .int .i64 3, .int .i64 2] W fun e w' => e = .returned (.bool true) ∧ SetAt w' b 4 [(3, 1)] ∧ Wrote (fun j => j = b) W w' from Put_any 3 2 b 4 [(3, 1)] W h))
  have HL := hid (fun (W : World) (b : Nat) (h : SetAt W b 4 [(3, 1)]) => (show Calls Try.prog 13 #[.pointer (some ⟨b, 0, none⟩)] W fun e w' => e = .returned (.int .i64 1) ∧ Below W.heap.size W w' from Len_any b 4 _ W h))
  have HA := hid (fun (W : World) (b : Nat) (h : SetAt W b 4 [(3, 1)]) => (show Calls Try.prog 16 #[.pointer (some ⟨b, 0, none⟩), .int .i64 0] W fun e w' => e = .returned (.agg #[.int .i64 3, .int .i64 1]) ∧ Below W.heap.size W w' from At_any 0 (3, 1) b 4 _ W h rfl))
  have HB : Hid (Below w.heap.size w w) := hid (bid w)
  have q1 := eq_word 3 1 3 1
  have q2 := guard_word
  simp only [show sameW (3, 1) (3, 1) = true from rfl] at q1
  go_enter Try.func6, Try.ntmps6
  go_wp2_with (first
    | (go_at_call 7; go_must ((with_reducible refine (HN.out _).mono ?_); rintro e w1 ⟨b, rfl, hwb, hs, hb⟩; have HS := hid hs; have HB := hid hb; clear hs hb))
    | (go_at_call 11; (first | (with_reducible refine (HP1.out _ _ HS.out).mono ?_) | (with_reducible refine (HP2.out _ _ HS.out).mono ?_)); rintro e w2 ⟨rfl, hs, hw⟩; have HS := hid hs; have HB := hid (HB.out.trans (hw.below HB.out.size (fun k hk e => by omega))); clear hs hw)
    | (go_at_call 13; go_must ((with_reducible refine (HL.out _ _ HS.out).mono ?_); rintro e w3 ⟨rfl, hb⟩; have HS := hid (HS.out.below hb); have HB := hid (bthen HB.out hb); clear hb))
    | (go_at_call 16; go_must ((with_reducible refine (HA.out _ _ HS.out).mono ?_); rintro e w4 ⟨rfl, hb⟩; have HS := hid (HS.out.below hb); have HB := hid (bthen HB.out hb); clear hb)))
  go_ret
  exact ⟨rfl, HB.out⟩

end Go.Proofs.Ytppnhcdmaokjcaa
