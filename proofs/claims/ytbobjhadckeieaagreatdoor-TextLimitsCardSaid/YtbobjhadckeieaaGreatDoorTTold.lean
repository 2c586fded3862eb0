/-
  Package text: the document's example (told5, for seats without Prog).
-/
import Derived.Test.YtbobjhadckeieaaGreatDoorTWhere
namespace Go.Proofs.YtbobjhadckeieaaGreatDoor
open Go.RowKit
set_option linter.unusedVariables false

set_option maxRecDepth 100000 in
set_option maxHeartbeats 2000000 in
theorem told5 (w : World) (ht : Tabs w) : Calls Tryz.prog 15 #[] w fun e w' => e = .returned (.bool true) ∧ Below w.heap.size w w' := by
  have HT := hid ht
  have q1 := run_eql_nils
  clear ht
  go_enter Tryz.func15, Tryz.ntmps15
  go_upto_region 2 with (go_at_call 12; refine (Parse_good [115, 101, 116, 32, 48, 32, 53] [⟨1, 0, 0, 0, 5⟩] told_line (by decide) (by decide) _ HT.out).mono ?_; rintro e w1 ⟨a, c, rfl, hr, hb⟩; obtain ⟨b, off, rfl, hbl, hcell⟩ := hr.at (by decide); have HI := hid (hcell 0 _ rfl); have HB := hid hb; clear hr hb hcell)
  obtain ⟨c0, c1, c2, c3, c4⟩ := HI.out
  simp only [Nat.zero_mul, Nat.add_zero] at c0 c1 c2 c3 c4
  try simp only [List.length_cons, List.length_nil, Nat.zero_add]
  go_wp2
  go_ret
  exact ⟨rfl, HB.out⟩

end Go.Proofs.YtbobjhadckeieaaGreatDoor
