/-
  Package text: what is wrong, with its line.
-/
import Derived.Test.YtbobjhadckeieaaGreatDoorNil
import Derived.Test.YtbobjhadckeieaaGreatDoorIsAt
namespace Go.Proofs.YtbobjhadckeieaaGreatDoor
open Go.RowKit

/-- An error of a text: a code's own error within an At of nobody and a line. -/
def WrongAt (w : World) (b : Nat) (n : Int) (s : Addr) : Prop := AtAt w b (-1) n (errV 208 s)
theorem wrong_any {w : World} {sb : Nat → Addr} (hs : Sents w sb) (k : Nat) (h1 : 1 ≤ k) (h2 : k ≤ 10) (n : Int) :
    Calls Tryz.prog 21 #[.int .i64 (k : Int), .int .i64 n] w fun e w' => e = .returned (errV 73 ⟨w.heap.size, 0, none⟩) ∧ WrongAt w' w.heap.size n (sb k) ∧ w.heap.size < w'.heap.size ∧ Below w.heap.size w w' := by
  have HN := hid (New_any hs k h1 h2)
  clear hs h1 h2
  go_enter Tryz.func21, Tryz.ntmps21
  go_wp2_with (first | (go_at_call 25; refine HN.out.mono ?_; rintro e w1 ⟨rfl, rfl⟩) | (go_at_call 40; refine (Put_err _ _ _ _ _).mono ?_; rintro e w2 ⟨rfl, rfl⟩))
  go_ret
  exact ⟨rfl, heap_alloc_new _ _, by rw [size_alloc1]; omega, bnew (bid _) _⟩

/-- An error of a text, taken as a chain. -/
theorem WrongAt.chain {w : World} {sb : Nat → Addr} (hs : Sents w sb) {k : Nat} (h1 : 1 ≤ k) (h2 : k ≤ 10) {b : Nat} {n : Int} (h : WrongAt w b n (sb k)) :
    Chain w [(73, ⟨b, 0, none⟩), (208, sb k)] := by
  refine ⟨by simp, ?_, by simp, fun j hj => ?_, fun j hj => ?_⟩
  · simp
  · simp only [List.length_cons, List.length_nil] at hj
    obtain rfl : j = 0 := by omega
    exact ⟨b, -1, n, rfl, h⟩
  · simp only [List.length_cons, List.length_nil] at hj
    obtain rfl : j = 1 := by omega
    exact ⟨sb k, rfl, hs.err k h1 h2⟩
theorem WrongAt.ends (sb : Nat → Addr) (k b : Nat) : EndsAt [(73, ⟨b, 0, none⟩), (208, sb k)] sb k := fun j hj => by
  obtain rfl : j = 1 := by simp at hj; omega
  rfl

set_option maxRecDepth 100000 in
/-- Where, at a text's error. -/
theorem Where_wrong {w : World} {sb : Nat → Addr} (hs : Sents w sb) (hg : ErrType w) {k : Nat} (h1 : 1 ≤ k) (h2 : k ≤ 10) {b : Nat} {n : Int} (h : WrongAt w b n (sb k)) :
    Calls Tryz.prog 13 #[errV 73 ⟨b, 0, none⟩] w fun e w' => e = .returned (.tuple #[.int .i64 (-1), .int .i64 n, .bool true]) ∧ Below w.heap.size w w' :=
  Where_at (ks := [(73, ⟨b, 0, none⟩), (208, sb k)]) (h.chain hs h1 h2) hg (Nat.lt_succ_self 1) rfl h
set_option maxRecDepth 100000 in
/-- Code, at a text's error. -/
theorem Code_wrong {w : World} {sb : Nat → Addr} (hs : Sents w sb) {k : Nat} (h1 : 1 ≤ k) (h2 : k ≤ 10) {b : Nat} {n : Int} (h : WrongAt w b n (sb k)) :
    Calls Tryz.prog 14 #[errV 73 ⟨b, 0, none⟩] w fun e w' => e = .returned (.int .i64 (k : Int)) ∧ Below w.heap.size w w' :=
  Code_chain (ks := [(73, ⟨b, 0, none⟩), (208, sb k)]) (h.chain hs h1 h2) hs (WrongAt.ends sb k b) h1 h2
/-- errors.Is, at a text's error. -/
theorem Is_wrong {w : World} {sb : Nat → Addr} (hs : Sents w sb) {k j : Nat} (h1 : 1 ≤ k) (h2 : k ≤ 10) (j1 : 1 ≤ j) (j2 : j ≤ 10) {b : Nat} {n : Int} (h : WrongAt w b n (sb k)) :
    Calls Tryz.prog 24 #[errV 73 ⟨b, 0, none⟩, errV 208 (sb j)] w fun e w' => e = .returned (.bool (decide (k = j))) ∧ Below w.heap.size w w' := by
  have hd : decide (sb k = sb j) = decide (k = j) := by
    by_cases e : k = j
    · simp [e]
    · have : ¬ sb k = sb j := fun he => e (hs.apart k j h1 h2 j1 j2 he)
      simp [e, this]
  rw [← hd]
  exact Is_at_str h (hs.err k h1 h2) (hs.err j j1 j2)
theorem WrongAt.below {w w' : World} {b : Nat} {n : Int} {s : Addr} (h : WrongAt w b n s) (hb : Below w.heap.size w w') : WrongAt w' b n s :=
  AtAt.kept h (Wrote.of_below hb (fun _ => False)) fun h => h

end Go.Proofs.YtbobjhadckeieaaGreatDoor
