/-
  TextAsks, walked.
-/
import Derived.Test.YtkjcppnnfakjkaaDoorTBack
import Derived.Test.YtkjcppnnfakjkaaDoorTProg2
namespace Go.Proofs.YtkjcppnnfakjkaaDoor
open Go.RowKit
set_option linter.unusedVariables false

set_option maxRecDepth 100000 in
set_option maxHeartbeats 2000000 in
theorem told5 (w : World) (ht : Tabs w) : Calls Tryd.prog 5 #[] w fun e w' => e = .returned (.bool true) ∧ Below w.heap.size w w' := by
  have HT := hid ht
  have q1 := run_eql_nils
  clear ht
  go_enter Tryd.func5, Tryd.ntmps5
  go_upto_region 2 with (go_at_call 11; refine (Parse_good [115, 101, 116, 32, 48, 32, 53] [⟨1, 0, 0, 0, 5⟩] told_line (by decide) (by decide) _ HT.out).mono ?_; rintro e w1 ⟨a, c, rfl, hr, hb⟩; obtain ⟨b, off, rfl, hbl, hcell⟩ := hr.at (by decide); have HI := hid (hcell 0 _ rfl); have HB := hid hb; clear hr hb hcell)
  obtain ⟨c0, c1, c2, c3, c4⟩ := HI.out
  simp only [Nat.zero_mul, Nat.add_zero] at c0 c1 c2 c3 c4
  try simp only [List.length_cons, List.length_nil, Nat.zero_add]
  go_wp2
  go_ret
  exact ⟨rfl, HB.out⟩

set_option maxRecDepth 100000 in
set_option maxHeartbeats 4000000 in
theorem asks5_long (a : Option Addr) (n c : Nat) (w : World) (ht : Tabs w) (hn : 20 < n) :
    Calls Tryd.prog 3 #[.slice a n c] w fun e w' => e = .returned (.bool true) ∧ Below w.heap.size w w' := by
  have HT := hid ht
  have i1 : (20 : Int) < (n : Int) := by omega
  clear ht
  go_enter Tryd.func3, Tryd.ntmps3
  go_wp2_with (go_at_call 5; refine (told5 _ HT.out).mono ?_; rintro e w1 ⟨rfl, hb1⟩; have HB := hid hb1; clear hb1)
  go_ret
  exact ⟨rfl, HB.out⟩

set_option maxRecDepth 100000 in
set_option maxHeartbeats 8000000 in
theorem asks5_walk (a : Option Addr) (n c : Nat) (rs : List Rw) (w : World) (ht : Tabs w) (hr : Rows6 w a n rs) (hn : n ≤ 20) :
    Calls Tryd.prog 3 #[.slice a n c] w fun e w' => e = .returned (.bool true) ∧ Below w.heap.size w w' := by
  have HT := hid ht
  have HR := hid hr
  have HN := hid (show n ≤ 1000 by omega)
  have i1 : (n : Int) ≤ 20 := by omega
  clear ht hr
  go_enter Tryd.func3, Tryd.ntmps3
  go_wp2_with (go_at_call 6; refine (Prog_any a n c rs _ HR.out HN.out).mono ?_; rintro e w1 ⟨a1, c1, ps, rfl, hir, hok, -, hb1⟩; have HI1 := hid hir; have HOK := hid hok; have HB1 := hid hb1; clear hir hok hb1)
  go_loopw [4] (fun tk wr => ∃ k : Nat, k ≤ n ∧ tk = .int .i64 k ∧ Below w1.heap.size w1 wr) (fun tk _ => n - (intOf tk).toNat)
  case atStart => exact ⟨0, Nat.zero_le _, rfl, bid w1⟩
  case round =>
    obtain ⟨k, hk, rfl, hb⟩ := hrel
    have HB := hid hb
    clear hb
    by_cases hlt : k < n
    · obtain ⟨b, off, rfl, hbl, hcell⟩ := HI1.out.at (by omega)
      obtain ⟨i, hi⟩ : ∃ i, ps[k]? = some i := ⟨_, List.getElem?_eq_getElem (by rw [HI1.out.cnt]; exact hlt)⟩
      have HIA := hid ((hcell k i hi).keep (HB.out.block b hbl))
      obtain ⟨c0, c1, c2, c3, c4⟩ := HIA.out
      have hio := HOK.out i (List.mem_of_getElem? hi)
      have LN := fun W hT => Line_any i hio W hT
      have RL := fun W => refLine_any i hio W
      dsimp only [Ins.v] at LN RL
      have HLN := hid LN
      have HRL := hid RL
      have HTW := hid ((HT.out.below HB1.out).below HB.out)
      have j1 : (0 : Int) ≤ (k : Int) := by omega
      have j2 : (k : Int) < (n : Int) := by omega
      have hbw : b < wr.heap.size := Nat.lt_of_lt_of_le hbl HB.out.size
      have q1 : ((bsOf (lineL i)).toList == (bsOf (lineL i)).toList) = true := by simp
      have q2 : (mayB i == mayB i) = true := by simp
      clear hcell hi hio LN RL hlt hk
      go_wp2_with (first | (go_at_call 7; (with_reducible refine (HLN.out _ HTW.out).mono ?_); rintro e w2 ⟨rfl, hb2⟩; obtain ⟨cc, gg, ss⟩ := bcell hb2 rfl; have HB2 := hid (bthen HB.out hb2); clear hb2) | (go_at_call 8; (with_reducible refine (HRL.out _).mono ?_); rintro e w3 ⟨rfl, hb3⟩; have HB3 := hid (bthen HB2.out hb3); clear hb3))
      go_roundw
      case rel => exact ⟨k + 1, by omega, by go_num, HB3.out⟩
      case measure => simp [intOf]; omega
    · obtain rfl : k = n := by omega
      have HIW := hid (HI1.out.below HB.out)
      have q1 : ((bsOf (printT ps)).toList == (bsOf (printT ps)).toList) = true := by simp
      have q2 : (ps.all mayB == ps.all mayB) = true := by simp
      have HTW := hid ((HT.out.below HB1.out).below HB.out)
      clear hlt
      go_wp2_with (first | (go_at_call 9; refine (Print_any _ _ _ ps _ HTW.out HIW.out HOK.out HN.out).mono ?_; rintro e w2 ⟨rfl, hb2⟩; have HB2 := hid hb2; clear hb2) | (go_at_call 10; refine (refPrint_any _ _ _ ps _ (HIW.out.below HB2.out) HOK.out HN.out).mono ?_; rintro e w3 ⟨rfl, hb3⟩; have HB3 := hid (bthen HB2.out hb3); clear hb3) | (go_at_call 5; refine (told5 _ (HTW.out.below HB3.out)).mono ?_; rintro e w4 ⟨rfl, hb4⟩; have HB4 := hid (bthen HB3.out hb4); clear hb4))
      go_ret
      exact ⟨rfl, bthen HB1.out (bthen HB.out HB4.out)⟩

theorem asks5_all (a : Option Addr) (n c : Nat) (rs : List Rw) (w : World) (ht : Tabs w) (hr : Rows6 w a n rs) :
    Calls Tryd.prog 3 #[.slice a n c] w fun e w' => e = .returned (.bool true) ∧ Below w.heap.size w w' := by
  rcases Nat.lt_or_ge 20 n with h | h
  · exact asks5_long a n c w ht h
  · exact asks5_walk a n c rs w ht hr h

end Go.Proofs.YtkjcppnnfakjkaaDoor
