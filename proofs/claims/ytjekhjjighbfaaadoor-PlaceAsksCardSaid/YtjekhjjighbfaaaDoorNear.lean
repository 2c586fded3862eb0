/-
  'told' and 'Near' of layer 3.
-/
import Derived.Test.YtjekhjjighbfaaaDoorName
namespace Go.Proofs.YtjekhjjighbfaaaDoor
open Go.RowKit

def told3 : PM := ⟨1, 0, 1, 0, 0⟩
theorem told3_ok : told3.Ok := ⟨by decide, by decide, by decide, by decide, by decide, by decide, by decide, by decide, by decide, by decide⟩
theorem told_size (w : World) : Calls Tryd.prog 10 #[.agg #[.int .i64 1, .int .i64 0, .int .i64 1, .int .i64 0, .int .i64 0]] w fun e w' => e = .returned (.int .i64 6) ∧ Below w.heap.size w w' := by
  have h := Size_any told3 w
  have e : told3.size = 6 := by decide +kernel
  rw [e] at h
  exact h
theorem told_clock (w : World) : Calls Tryd.prog 11 #[.agg #[.int .i64 1, .int .i64 0, .int .i64 1, .int .i64 0, .int .i64 0]] w fun e w' => e = .returned (.int .i64 0) ∧ Below w.heap.size w w' := by
  have h := Clock_any told3 w
  have e : told3.at_ 0 0 0 = 0 := by decide +kernel
  rw [e] at h
  exact h
theorem told_name (w : World) : Calls Tryd.prog 37 #[.agg #[.int .i64 1, .int .i64 0, .int .i64 1, .int .i64 0, .int .i64 0], .int .i64 2] w fun e w' => e = .returned (.string ⟨#[115, 116, 114, 105, 112, 101, 32, 48]⟩) ∧ Below w.heap.size w w' := by
  have h := Name_at told3 2 0 0 w told3_ok ⟨by decide, by decide, by decide⟩
  have e : told3.loc 2 0 0 = 2 := by decide +kernel
  have e2 : nameL told3.l.toNat 2 0 0 = [115, 116, 114, 105, 112, 101, 32, 48] := by decide +kernel
  rw [e, e2] at h
  exact h

set_option maxHeartbeats 1000000 in
theorem told_any (w : World) : Calls Tryd.prog 34 #[] w fun e w' => e = .returned (.bool true) ∧ Below w.heap.size w w' := by
  go_enter Tryd.func34, Tryd.ntmps34
  go_wp2_with (first | (go_at_call 10; refine (told_size _).mono ?_; rintro e w1 ⟨rfl, hb1⟩; obtain ⟨hc1, hf1, hz1⟩ := bcell hb1 (size_alloc1 _ _); have hz4 : w.heap.size < w1.heap.size := hz1; have HB1 := hid hb1; clear hb1) | (go_at_call 37; refine (told_name _).mono ?_; rintro e w2 ⟨rfl, hb2⟩; obtain ⟨hc2, hf2, hz2⟩ := bcell hb2 rfl; have HB2 := hid hb2; clear hb2) | (go_at_call 11; refine (told_clock _).mono ?_; rintro e w3 ⟨rfl, hb3⟩; have HB3 := hid hb3; clear hb3))
  go_ret
  exact ⟨rfl, bthen (bthen (bthen (bnew (bid w) _) HB1.out) HB2.out) HB3.out⟩

theorem u64_pos (n : Int) : 0 ≤ IntKind.u64.wrap n := by
  simp only [IntKind.wrap, IntKind.signed, Bool.false_and]
  exact Int.emod_nonneg _ (by decide)

/-- The map that 'Near' makes of five numbers. -/
def near (k0 k1 k2 k3 k4 : Int) : PM := ⟨1 + IntKind.u64.wrap k0 % 16, IntKind.u64.wrap k1 % 5, 1 + IntKind.u64.wrap k2 % 4, IntKind.u64.wrap k3 % 5, IntKind.u64.wrap k4 % 33⟩
theorem near_ok (k0 k1 k2 k3 k4 : Int) : (near k0 k1 k2 k3 k4).Ok := by
  constructor <;> simp only [near] <;> omega

set_option maxHeartbeats 1000000 in
theorem Near_any (k0 k1 k2 k3 k4 : Int) (w : World) :
    Calls Tryd.prog 8 #[.agg #[.int .i64 k0, .int .i64 k1, .int .i64 k2, .int .i64 k3, .int .i64 k4]] w fun e w' => e = .returned (near k0 k1 k2 k3 k4).v ∧ Below w.heap.size w w' := by
  have h0 := u64_pos k0
  have h1 := u64_pos k1
  have h2 := u64_pos k2
  have h3 := u64_pos k3
  have h4 := u64_pos k4
  go_enter Tryd.func8, Tryd.ntmps8
  go_wp2
  exact bodyPost_ret (v := (near k0 k1 k2 k3 k4).v) (by simp [results, Tryd.results8, go_sem, near, PM.v]) rfl ⟨rfl, bnew (bnew (bid w) _) _⟩

end Go.Proofs.YtjekhjjighbfaaaDoor
