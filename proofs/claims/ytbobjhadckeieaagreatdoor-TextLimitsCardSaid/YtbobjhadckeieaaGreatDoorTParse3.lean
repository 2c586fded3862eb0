/-
  Package text: Parse, where there are too many; where the text is too long.
-/
import Derived.Test.YtbobjhadckeieaaGreatDoorTParse2
namespace Go.Proofs.YtbobjhadckeieaaGreatDoor
open Go.RowKit
set_option linter.unusedVariables false

theorem run_neq_err2 (t : TypeId) (v : Value) (W : World) : (binOp .neq 47 (.iface t v) .nilIface).run Tryz.prog W = .ok (.bool true) W := by
  have h : ∀ d : Nat, (Op.equalIn (d + 1) 47 (.iface t v) .nilIface).run Tryz.prog W = .ok false W := fun d => by simp [Op.equalIn, run_underlying Tryz.underlying47]
  simp only [binOp]
  simp [Op.equal, Op.maxDepth, h 9999]
theorem run_neq_nils2 (W : World) : (binOp .neq 47 .nilIface .nilIface).run Tryz.prog W = .ok (.bool false) W := by
  have h : ∀ d : Nat, (Op.equalIn (d + 1) 47 .nilIface .nilIface).run Tryz.prog W = .ok true W := fun d => by simp [Op.equalIn, run_underlying Tryz.underlying47]
  simp only [binOp]
  simp [Op.equal, Op.maxDepth, h 9999]
def ParseAt3 (s : List UInt8) (F N : Nat) (sb : Nat → Addr) (w1 : World) (tv te tk : Value) (wr : World) : Prop :=
  ∃ k : Nat, k ≤ N ∧ tk = .int .i64 k ∧ Below w1.heap.size w1 wr ∧
    ((k ≤ F ∧ te = .nilIface ∧ ∃ qs : List Ins, linesOf ((cutAt 10 s).take k) = some qs ∧ wr.ownsRow w1.heap.size 40 5 tv qs.length (insCells qs)) ∨
     (F < k ∧ ∃ b a c, te = errV 73 ⟨b, 0, none⟩ ∧ WrongAt wr b ((F : Int) + 1) (sb 4) ∧ tv = .slice a 48 c))

set_option maxRecDepth 100000 in
set_option maxHeartbeats 4000000 in
theorem Parse_many (s : List UInt8) (F : Nat) (lb : List UInt8) (ib : Ins) (ps : List Ins) (hb : (cutAt 10 s)[F]? = some lb) (hb0 : lb ≠ []) (hb1 : instrOf lb = some ib) (h : linesOf ((cutAt 10 s).take F) = some ps) (hn : ps.length = 48)
    (hrest : ∀ j l, F < j → (cutAt 10 s)[j]? = some l → l = [] ∨ ∃ i, instrOf l = some i) (hs : s.length ≤ 20000) (w : World) (ht : Tabs w) {sb : Nat → Addr} (hS : Sents w sb) :
    Calls Tryz.prog 12 #[.string (bsOf s)] w (ParseBadRet ((F : Int) + 1) (sb 4) w) := by
  have HT := hid ht
  have HSS := hid hS
  have HL := hid (show s.length < 4294967281 by omega)
  have HS := hid hs
  have HP := hid h
  have HN := hid hn
  have HF0 := hid hb
  have HF1 := hid hb0
  have HF2 := hid hb1
  have HRS := hid hrest
  have hFN := (List.getElem?_eq_some_iff.1 hb).1
  have HFN := hid hFN
  have hz := bsOf_size s
  have i1 : ((bsOf s).size : Int) ≤ 20000 := by omega
  have HCL := hid (cutAt_len 10 s)
  have HCE := hid (cutAt_each 10 s)
  clear ht hs h hn hz hb hb0 hb1 hFN hS hrest
  go_enter Tryz.func12, Tryz.ntmps12
  go_wp2_with (go_at_call 22; (with_reducible refine (split_any 10 s _ HT.out HL.out).mono ?_); rintro e w1 ⟨⟨N, rfl, hN⟩, hc1, hlt1, hb1⟩; have HNN := hid hN; have HC1 := hid hc1; have HLT := hid hlt1; have HB1 := hid hb1; clear hN hc1 hlt1 hb1)
  have n1 : (N : Int) ≤ 20001 := by have := HCL.out; have := HNN.out; have := HS.out; omega
  have n2 : F < N := by rw [HNN.out]; exact HFN.out
  clear i1
  go_loopw [4, 5, 16] (fun tv te tk wr => ParseAt3 s F N sb w1 tv te tk wr) (fun _ _ tk _ => N - (intOf tk).toNat)
  case atStart => exact ⟨0, Nat.zero_le _, rfl, bid w1, .inl ⟨Nat.zero_le _, rfl, [], rfl, World.ownsRow_nil _ _ _ _⟩⟩
  case round =>
    obtain ⟨k, hk, rfl, hb, hst⟩ := hrel
    have HB := hid hb
    have HST := hid hst
    have HTW := hid ((HT.out.below HB1.out).below hb)
    have HSW := hid ((HSS.out.below HB1.out).below hb)
    have hblk : w.heap.size < wr.heap.size := Nat.lt_of_lt_of_le HLT.out hb.size
    have hq1 := run_eql_nils
    have hq2 := fun b => run_eql_nil 73 (.pointer (some b))
    clear hb hst
    by_cases hkN : k < N
    · have hlN : k < (cutAt 10 s).length := by rw [← HNN.out]; exact hkN
      obtain ⟨l, hl⟩ : ∃ l, (cutAt 10 s)[k]? = some l := ⟨_, List.getElem?_eq_getElem hlN⟩
      have cl : wr.cell? ⟨w.heap.size, k, none⟩ = some (.string (bsOf l)) := (HB.out.cell (p := ⟨w.heap.size, k, none⟩) HLT.out).trans (HC1.out k l hl)
      have hll : l.length ≤ 100000 := by
        have h1 := HCE.out l (List.mem_of_getElem? hl)
        have h2 := HS.out
        omega
      have HLL := hid hll
      have HKN := hid (show k + 1 ≤ N from hkN)
      have j1 : (0 : Int) ≤ (k : Int) := by omega
      have j2 : (k : Int) < (N : Int) := by omega
      rcases HST.out with ⟨hkF, rfl, qs, hq, hown⟩ | ⟨hFk, b, va, vc, rfl, hw, rfl⟩
      · obtain ⟨va, vc, rfl⟩ := row_slice hown
        have HQ := hid hq
        have HO := hid hown
        clear hq hown
        by_cases hlt : k < F
        · have hl' : ((cutAt 10 s).take F)[k]? = some l := by rw [List.getElem?_take]; simp [hlt, hl]
          have hq' : linesOf (((cutAt 10 s).take F).take k) = some qs := by rw [List.take_take, Nat.min_eq_left (Nat.le_of_lt hlt)]; exact HQ.out
          have hnx := linesOf_next HP.out hl' hq'
          rw [List.take_take, Nat.min_eq_left hlt] at hnx
          have HK1 := hid (show k + 1 ≤ F from hlt)
          clear hl hll hlN hlt hk hl' hq' hkN HST hkF
          rcases hnx with ⟨rfl, hnx⟩ | ⟨hne, i, hi, hnx, hcnt⟩
          · have HNX := hid hnx
            clear hnx
            go_wp2_with (first | (go_at_call 23; refine (with_skip _ _ _).mono ?_; rintro e w' ⟨rfl, rfl⟩) | (go_at_call 25; refine (New_any HSW.out 3 (by decide) (by decide)).mono ?_; rintro e w' ⟨rfl, rfl⟩) | (go_at_call 24; refine (Is_nil _ _ _).mono ?_; rintro e w' ⟨rfl, rfl⟩))
            go_roundw
            case rel => exact ⟨k + 1, HKN.out, by go_num, HB.out, .inl ⟨HK1.out, rfl, qs, HNX.out, HO.out⟩⟩
            case measure => simp [intOf]; have := HKN.out; omega
          · have HNX := hid hnx
            have HI := hid hi
            have HNE := hid hne
            have HCNT := hid (show qs.length < 48 by have := HN.out; omega)
            clear hnx hi hne hcnt
            go_wp2_with (first | (go_at_call 23; go_must (refine (with_good w1.heap.size qs.length vc va qs l i _ _ HTW.out HI.out HNE.out HLL.out HCNT.out rfl HO.out HB.out.size).mono ?_); rintro e w2 ⟨v', rfl, hown', hb'⟩; have HO2 := hid hown'; have HB2 := hid (HB.out.trans hb'); have HSW2 := hid ((HSS.out.below HB1.out).below HB2.out); clear hown' hb') | (go_at_call 25; refine (New_any HSW2.out 3 (by decide) (by decide)).mono ?_; rintro e w' ⟨rfl, rfl⟩) | (go_at_call 24; refine (Is_nil _ _ _).mono ?_; rintro e w' ⟨rfl, rfl⟩))
            go_roundw
            case rel => exact ⟨k + 1, HKN.out, by go_num, HB2.out, .inl ⟨HK1.out, rfl, qs ++ [i], HNX.out, by rw [List.length_append]; exact HO2.out⟩⟩
            case measure => simp [intOf]; have := HKN.out; omega
        · obtain rfl : k = F := by omega
          obtain rfl : l = lb := Option.some.inj (hl.symm.trans HF0.out)
          obtain rfl : qs = ps := Option.some.inj (HQ.out.symm.trans HP.out)
          have h48 := HN.out
          clear hl hll hlN hlt hk hkN HST hkF
          rw [h48]
          go_wp2_with (first | (go_at_call 23; go_must (refine (with_many vc va l ib _ _ HTW.out HSW.out HF2.out HF1.out HLL.out).mono ?_); rintro e w2 ⟨b, rfl, hw, _, _, hb2⟩; have HW := hid hw; have HB2 := hid hb2; have HSW2 := hid (HSW.out.below hb2); clear hw hb2) | (go_at_call 25; refine (New_any HSW2.out 3 (by decide) (by decide)).mono ?_; rintro e w' ⟨rfl, rfl⟩) | (go_at_call 24; refine (Is_wrong HSW2.out (k := 4) (j := 3) (by decide) (by decide) (by decide) (by decide) HW.out).mono ?_; rintro e w3 ⟨rfl, hb3⟩; have HB3 := hid hb3; have HW3 := hid (WrongAt.below HW.out hb3); clear hb3))
          go_roundw
          case rel => exact ⟨k + 1, HKN.out, by go_num, (HB.out.trans (HB2.out.mono HB.out.size)).trans (HB3.out.mono (by have := HB.out.size; have := HB2.out.size; omega)), .inr ⟨Nat.lt_succ_self _, b, va, vc, rfl, HW3.out, rfl⟩⟩
          case measure => simp [intOf]; have := HKN.out; omega
      · have hrl := HRS.out k l hFk hl
        have HW := hid hw
        have HFK := hid (Nat.lt_succ_of_lt hFk)
        clear hw hl hll hlN hk hkN HST
        by_cases hle : l = []
        · subst hle
          go_wp2_with (first | (go_at_call 23; refine (with_skip _ _ _).mono ?_; rintro e w' ⟨rfl, rfl⟩) | (go_at_call 25; refine (New_any HSW.out 3 (by decide) (by decide)).mono ?_; rintro e w' ⟨rfl, rfl⟩) | (go_at_call 24; refine (Is_nil _ _ _).mono ?_; rintro e w' ⟨rfl, rfl⟩))
          go_roundw
          case rel => exact ⟨k + 1, HKN.out, by go_num, HB.out, .inr ⟨HFK.out, b, va, vc, rfl, HW.out, rfl⟩⟩
          case measure => simp [intOf]; have := HKN.out; omega
        · obtain ⟨i, hi⟩ := hrl.resolve_left hle
          have HI := hid hi
          have HNE := hid hle
          clear hi hle hrl
          go_wp2_with (first | (go_at_call 23; go_must (refine (with_many vc va l i _ _ HTW.out HSW.out HI.out HNE.out HLL.out).mono ?_); rintro e w2 ⟨b2, rfl, hw2, _, _, hb2⟩; have HW2 := hid hw2; have HB2 := hid hb2; have HSW2 := hid (HSW.out.below hb2); clear hw2 hb2) | (go_at_call 25; refine (New_any HSW2.out 3 (by decide) (by decide)).mono ?_; rintro e w' ⟨rfl, rfl⟩) | (go_at_call 24; refine (Is_wrong HSW2.out (k := 4) (j := 3) (by decide) (by decide) (by decide) (by decide) HW2.out).mono ?_; rintro e w3 ⟨rfl, hb3⟩; have HB3 := hid hb3; clear hb3))
          go_roundw
          case rel => exact ⟨k + 1, HKN.out, by go_num, (HB.out.trans (HB2.out.mono HB.out.size)).trans (HB3.out.mono (by have := HB.out.size; have := HB2.out.size; omega)), .inr ⟨HFK.out, b, va, vc, rfl, (HW.out.below HB2.out).below HB3.out, rfl⟩⟩
          case measure => simp [intOf]; have := HKN.out; omega
    · obtain rfl : k = N := by omega
      rcases HST.out with ⟨hkF, _⟩ | ⟨hFk, b, va, vc, rfl, hw, rfl⟩
      · exact absurd hkF (by omega)
      · have HW := hid hw
        have hq3 := run_neq_err2 73 (.pointer (some ⟨b, 0, none⟩))
        clear hw HST
        go_wp2
        go_ret2
        exact ⟨b, rfl, HW.out, HB1.out.trans (HB.out.mono HB1.out.size)⟩

set_option maxRecDepth 100000 in
set_option maxHeartbeats 1000000 in
theorem Parse_long (s : List UInt8) (hs : 20000 < s.length) (hs2 : s.length ≤ 100000) (w : World) {sb : Nat → Addr} (hS : Sents w sb) :
    Calls Tryz.prog 12 #[.string (bsOf s)] w (ParseBadRet 0 (sb 4) w) := by
  have HSS := hid hS
  have hz := bsOf_size s
  have i1 : (20000 : Int) < ((bsOf s).size : Int) := by omega
  have i2 : ((bsOf s).size : Int) ≤ 100000 := by omega
  clear hS hz
  go_enter Tryz.func12, Tryz.ntmps12
  go_wp2_with (go_at_call 21; (refine (wrong_any HSS.out 4 (by decide) (by decide) 0).mono ?_); rintro e w2 ⟨rfl, hw2, hlt2, hb2⟩; have HW2 := hid hw2; have HB2 := hid hb2; clear hw2 hlt2 hb2)
  go_ret2
  exact ⟨_, rfl, HW2.out, HB2.out⟩

end Go.Proofs.YtbobjhadckeieaaGreatDoor
