/-
  Package text: Parse, where a line is none, and there are not too many ahead of it.
-/
import Derived.Test.YtbobjhadckeieaaGreatDoorTParse
import Derived.Test.YtbobjhadckeieaaGreatDoorTWith2
namespace Go.Proofs.YtbobjhadckeieaaGreatDoor
open Go.RowKit
set_option linter.unusedVariables false

def ParseBadRet (n : Int) (s : Addr) (w : World) (e : Ending) (w' : World) : Prop :=
  ∃ b, e = .returned (.tuple #[.slice none 0 0, errV 73 ⟨b, 0, none⟩]) ∧ WrongAt w' b n s ∧ Below w.heap.size w w'
def ParseAt2 (s : List UInt8) (F : Nat) (w1 : World) (tv te tk : Value) (wr : World) : Prop :=
  ∃ (k : Nat) (qs : List Ins), k ≤ F ∧ tk = .int .i64 k ∧ te = .nilIface ∧ linesOf ((cutAt 10 s).take k) = some qs ∧ wr.ownsRow w1.heap.size 40 5 tv qs.length (insCells qs) ∧ Below w1.heap.size w1 wr

set_option maxRecDepth 100000 in
set_option maxHeartbeats 4000000 in
theorem Parse_bad (s : List UInt8) (F : Nat) (lb : List UInt8) (ps : List Ins) (hb : (cutAt 10 s)[F]? = some lb) (hb0 : lb ≠ []) (hb1 : instrOf lb = none) (h : linesOf ((cutAt 10 s).take F) = some ps) (hn : ps.length ≤ 48) (hs : s.length ≤ 20000) (w : World) (ht : Tabs w) {sb : Nat → Addr} (hS : Sents w sb) :
    Calls Tryz.prog 12 #[.string (bsOf s)] w (ParseBadRet ((F : Int) + 1) (sb 3) w) := by
  have HT := hid ht
  have HSS := hid hS
  have HL := hid (show s.length < 4294967281 by omega)
  have HS := hid hs
  have HP := hid h
  have HN := hid hn
  have HF0 := hid hb
  have HF1 := hid hb0
  have HF2 := hid hb1
  have hFN := (List.getElem?_eq_some_iff.1 hb).1
  have HFN := hid hFN
  have hz := bsOf_size s
  have i1 : ((bsOf s).size : Int) ≤ 20000 := by omega
  have HCL := hid (cutAt_len 10 s)
  have HCE := hid (cutAt_each 10 s)
  clear ht hs h hn hz hb hb0 hb1 hFN hS
  go_enter Tryz.func12, Tryz.ntmps12
  go_wp2_with (go_at_call 22; (with_reducible refine (split_any 10 s _ HT.out HL.out).mono ?_); rintro e w1 ⟨⟨N, rfl, hN⟩, hc1, hlt1, hb1⟩; have HNN := hid hN; have HC1 := hid hc1; have HLT := hid hlt1; have HB1 := hid hb1; clear hN hc1 hlt1 hb1)
  have n1 : (N : Int) ≤ 20001 := by have := HCL.out; have := HNN.out; have := HS.out; omega
  have n2 : F < N := by rw [HNN.out]; exact HFN.out
  clear i1
  go_loopw [4, 5, 16] (fun tv te tk wr => ParseAt2 s F w1 tv te tk wr) (fun _ _ tk _ => F - (intOf tk).toNat)
  case atStart => exact ⟨0, [], Nat.zero_le _, rfl, rfl, rfl, World.ownsRow_nil _ _ _ _, bid w1⟩
  case round =>
    obtain ⟨k, qs, hk, rfl, rfl, hq, hown, hb⟩ := hrel
    obtain ⟨va, vc, rfl⟩ := row_slice hown
    have HQ := hid hq
    have HO := hid hown
    have HB := hid hb
    have hblk : w.heap.size < wr.heap.size := Nat.lt_of_lt_of_le HLT.out hb.size
    have HTW := hid ((HT.out.below HB1.out).below hb)
    have HSW := hid ((HSS.out.below HB1.out).below hb)
    clear hq hown hb
    have hkN : k < N := by omega
    have hlN : k < (cutAt 10 s).length := by rw [← HNN.out]; exact hkN
    obtain ⟨l, hl⟩ : ∃ l, (cutAt 10 s)[k]? = some l := ⟨_, List.getElem?_eq_getElem hlN⟩
    have cl : wr.cell? ⟨w.heap.size, k, none⟩ = some (.string (bsOf l)) := (HB.out.cell (p := ⟨w.heap.size, k, none⟩) HLT.out).trans (HC1.out k l hl)
    have hll : l.length ≤ 100000 := by
      have h1 := HCE.out l (List.mem_of_getElem? hl)
      have h2 := HS.out
      omega
    have HLL := hid hll
    have j1 : (0 : Int) ≤ (k : Int) := by omega
    have j2 : (k : Int) < (N : Int) := by omega
    have hq1 := run_eql_nils
    by_cases hlt : k < F
    · have hl' : ((cutAt 10 s).take F)[k]? = some l := by rw [List.getElem?_take]; simp [hlt, hl]
      have hq' : linesOf (((cutAt 10 s).take F).take k) = some qs := by rw [List.take_take, Nat.min_eq_left (Nat.le_of_lt hlt)]; exact HQ.out
      have hnx := linesOf_next HP.out hl' hq'
      rw [List.take_take, Nat.min_eq_left hlt] at hnx
      have HK1 := hid (show k + 1 ≤ F from hlt)
      clear hl hll hlN hlt hk hl' hq' hkN
      rcases hnx with ⟨rfl, hnx⟩ | ⟨hne, i, hi, hnx, hcnt⟩
      · have HNX := hid hnx
        clear hnx
        go_wp2_with (first | (go_at_call 23; refine (with_skip _ _ _).mono ?_; rintro e w' ⟨rfl, rfl⟩) | (go_at_call 25; refine (New_any HSW.out 3 (by decide) (by decide)).mono ?_; rintro e w' ⟨rfl, rfl⟩) | (go_at_call 24; refine (Is_nil _ _ _).mono ?_; rintro e w' ⟨rfl, rfl⟩))
        go_roundw
        case rel => exact ⟨k + 1, qs, HK1.out, by go_num, rfl, HNX.out, HO.out, HB.out⟩
        case measure => simp [intOf]; have := HK1.out; omega
      · have HNX := hid hnx
        have HI := hid hi
        have HNE := hid hne
        have HCNT := hid (show qs.length < 48 by have := HN.out; omega)
        clear hnx hi hne hcnt
        go_wp2_with (first | (go_at_call 23; go_must (refine (with_good w1.heap.size qs.length vc va qs l i _ _ HTW.out HI.out HNE.out HLL.out HCNT.out rfl HO.out HB.out.size).mono ?_); rintro e w2 ⟨v', rfl, hown', hb'⟩; have HO2 := hid hown'; have HB2 := hid (HB.out.trans hb'); have HSW2 := hid ((HSS.out.below HB1.out).below HB2.out); clear hown' hb') | (go_at_call 25; refine (New_any HSW2.out 3 (by decide) (by decide)).mono ?_; rintro e w' ⟨rfl, rfl⟩) | (go_at_call 24; refine (Is_nil _ _ _).mono ?_; rintro e w' ⟨rfl, rfl⟩))
        go_roundw
        case rel => exact ⟨k + 1, qs ++ [i], HK1.out, by go_num, rfl, HNX.out, by rw [List.length_append]; exact HO2.out, HB2.out⟩
        case measure => simp [intOf]; have := HK1.out; omega
    · obtain rfl : k = F := by omega
      obtain rfl : l = lb := Option.some.inj (hl.symm.trans HF0.out)
      clear hl hll hlN hlt hk hkN
      go_wp2_with (first | (go_at_call 23; go_must (refine (with_bad qs.length vc va l _ _ HTW.out HSW.out HF2.out HF1.out HLL.out).mono ?_); rintro e w2 ⟨b, rfl, hw, _, _, hb2⟩; have HW := hid hw; have HB2 := hid hb2; have HSW2 := hid (HSW.out.below hb2); clear hw hb2) | (go_at_call 25; refine (New_any HSW2.out 3 (by decide) (by decide)).mono ?_; rintro e w' ⟨rfl, rfl⟩) | (go_at_call 24; refine (Is_wrong HSW2.out (k := 3) (j := 3) (by decide) (by decide) (by decide) (by decide) HW.out).mono ?_; rintro e w3 ⟨rfl, hb3⟩; have HB3 := hid hb3; have HW3 := hid (WrongAt.below HW.out hb3); clear hb3))
      go_ret2
      exact ⟨b, rfl, HW3.out, ((HB1.out.trans (HB.out.mono HB1.out.size)).trans (HB2.out.mono (by have := HB1.out.size; have := HB.out.size; omega))).trans (HB3.out.mono (by have := HB1.out.size; have := HB.out.size; have := HB2.out.size; omega))⟩

end Go.Proofs.YtbobjhadckeieaaGreatDoor
