/-
  The document's example of layer 7; PickRound.
-/
import Derived.Test.YtbenbbgcdcafaaaPkRound
namespace Go.Proofs.Ytbenbbgcdcafaaa
open Go.RowKit
set_option linter.unusedVariables false

theorem Round_yes (n : Nat) (many : Int) (w : World) (h1 : 1 ≤ n) (h4 : n ≤ 4) (hm : many ≤ 1000) (hb : -9223372036854775808 ≤ many) (m : Nat) (hmm : many.toNat = m) :
    Calls Try.prog 18 #[.int .i64 n, .int .i64 many] w fun e w' => ∃ g, e = .returned (.slice (some ⟨g, 0, none⟩) m m) ∧ OwnPk w.heap.size (.slice (some ⟨g, 0, none⟩) m m) (roundF n m) w' ∧ Below w.heap.size w w' := by
  subst hmm
  refine (Round_any n many w hm hb).mono fun e w' h => ?_
  obtain ⟨⟨_, _, g, e1, h2⟩ | ⟨h0, _⟩, h3⟩ := h
  · exact ⟨g, e1, h2, h3⟩
  · omega
theorem Round_no (n many : Int) (w : World) (hn : n < 1 ∨ 4 < n) (hm : many ≤ 1000) (hb : -9223372036854775808 ≤ many) :
    Calls Try.prog 18 #[.int .i64 n, .int .i64 many] w fun e w' => e = .returned (.slice none 0 0) ∧ Below w.heap.size w w' := by
  refine (Round_any n many w hm hb).mono fun e w' h => ?_
  obtain ⟨⟨h1, h4, _⟩ | ⟨_, e1⟩, h3⟩ := h
  · omega
  · exact ⟨e1, h3⟩
theorem fair_23 : fairB (whoOf (roundF 2 3)) 2 2 = true := fairB_yes (round_fair 2 3 (by decide) (by decide))
theorem OwnPk.rowS {B g n c : Nat} {ps : List Pk} {w : World} (h : OwnPk B (.slice (some ⟨g, 0, none⟩) n c) ps w) : PkRow w (some ⟨g, 0, none⟩) n ps := by
  obtain rfl := h.count
  obtain ⟨a, c', e, hr, _⟩ := h.shape
  simp only [Value.slice.injEq] at e
  obtain ⟨rfl, _, _⟩ := e
  exact hr

set_option maxHeartbeats 4000000 in
theorem told7 (w : World) : Calls Try.prog 8 #[] w fun e w' => e = .returned (.bool true) ∧ Below w.heap.size w w' := by
  have HRY : Hid (Calls Try.prog 18 #[.int .i64 2, .int .i64 3] w fun e w' => ∃ g, e = .returned (.slice (some ⟨g, 0, none⟩) 3 3) ∧ OwnPk w.heap.size (.slice (some ⟨g, 0, none⟩) 3 3) (roundF 2 3) w' ∧ Below w.heap.size w w') := hid (Round_yes 2 3 w (by decide) (by decide) (by decide) (by decide) 3 rfl)
  go_enter Try.func8, Try.ntmps8
  go_upto_region 2 with (go_at_call 18; (with_reducible refine HRY.out.mono ?_); rintro e w1 ⟨g, rfl, ho, hb1⟩; have HO := hid ho; have HB := hid hb1; clear ho hb1)
  obtain ⟨a0, _, _⟩ := HO.out.at (k := 0) (p := ⟨0, false, 0⟩) rfl
  obtain ⟨a1, _, _⟩ := HO.out.at (k := 1) (p := ⟨1, false, 0⟩) rfl
  obtain ⟨a2, _, _⟩ := HO.out.at (k := 2) (p := ⟨0, false, 0⟩) rfl
  dsimp only [Nat.zero_mul, Nat.one_mul] at a0 a1 a2
  have HF := hid (Fair_any (some ⟨g, 0, none⟩) 3 3 (roundF 2 3) 2 2 w1 HO.out.rowS (by decide) (by decide) (by decide))
  rw [fair_23] at HF
  go_wp2_with (go_at_call 14; (with_reducible refine HF.out.mono ?_); rintro e w2 ⟨rfl, hb2⟩; have HB2 := hid hb2; clear hb2)
  go_ret
  exact ⟨rfl, bthen HB.out HB2.out⟩

end Go.Proofs.Ytbenbbgcdcafaaa
