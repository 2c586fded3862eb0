/-
  Package text: Parse, where every line is one (or empty), and there are no more than may be.
-/
import Derived.Test.YtbobjhadckeieaaGreatDoorTWith
namespace Go.Proofs.YtbobjhadckeieaaGreatDoor
open Go.RowKit
set_option linter.unusedVariables false

theorem linesOf_append (a b : List (List UInt8)) : linesOf (a ++ b) = match linesOf a, linesOf b with
    | some x, some y => some (x ++ y)
    | _, _ => none := by
  induction a with
  | nil =>
    rw [List.nil_append]
    cases h : linesOf b <;> simp [linesOf]
  | cons l r ih =>
    rw [List.cons_append]
    by_cases hl : l = []
    · have e1 : linesOf (l :: (r ++ b)) = linesOf (r ++ b) := by conv => lhs; unfold linesOf; rw [if_pos hl]
      have e2 : linesOf (l :: r) = linesOf r := by conv => lhs; unfold linesOf; rw [if_pos hl]
      rw [e1, e2, ih]
    · have e1 : linesOf (l :: (r ++ b)) = match instrOf l, linesOf (r ++ b) with
          | some i, some ps => some (i :: ps)
          | _, _ => none := by rw [linesOf, if_neg hl]; first | done | rfl
      have e2 : linesOf (l :: r) = match instrOf l, linesOf r with
          | some i, some ps => some (i :: ps)
          | _, _ => none := by rw [linesOf, if_neg hl]; first | done | rfl
      rw [e1, e2, ih]
      cases instrOf l <;> cases linesOf r <;> cases linesOf b <;> rfl

/-- What the next line does. -/
theorem linesOf_next {ls : List (List UInt8)} {ps qs : List Ins} {k : Nat} {l : List UInt8} (h : linesOf ls = some ps) (hk : ls[k]? = some l) (hq : linesOf (ls.take k) = some qs) :
    (l = [] ∧ linesOf (ls.take (k + 1)) = some qs) ∨ (l ≠ [] ∧ ∃ i, instrOf l = some i ∧ linesOf (ls.take (k + 1)) = some (qs ++ [i]) ∧ qs.length + 1 ≤ ps.length) := by
  have hlt := (List.getElem?_eq_some_iff.1 hk).1
  have hg : ls[k] = l := (List.getElem?_eq_some_iff.1 hk).2
  have e : ls = ls.take (k + 1) ++ ls.drop (k + 1) := (List.take_append_drop _ _).symm
  have e1 : ls.take (k + 1) = ls.take k ++ [l] := by rw [List.take_succ_eq_append_getElem hlt, hg]
  have hs : linesOf (ls.take (k + 1)) = match linesOf (ls.take k), linesOf [l] with
      | some x, some y => some (x ++ y)
      | _, _ => none := by rw [e1, linesOf_append]
  rw [hq] at hs
  rw [e, linesOf_append] at h
  by_cases hl : l = []
  · refine .inl ⟨hl, ?_⟩
    rw [hs, hl]
    simp [linesOf]
  · refine .inr ⟨hl, ?_⟩
    cases hi : instrOf l with
    | none =>
      have : linesOf [l] = none := by unfold linesOf; rw [if_neg hl, hi]
      rw [this] at hs
      rw [hs] at h
      cases h
    | some i =>
      have : linesOf [l] = some [i] := by unfold linesOf; rw [if_neg hl, hi]; rfl
      rw [this] at hs
      refine ⟨i, rfl, hs, ?_⟩
      rw [hs] at h
      cases hd : linesOf (ls.drop (k + 1)) with
      | none => rw [hd] at h; cases h
      | some r =>
        rw [hd] at h
        cases h
        simp

def ParseRet (ps : List Ins) (w : World) (e : Ending) (w' : World) : Prop :=
  ∃ a c, e = .returned (.tuple #[.slice a ps.length c, .nilIface]) ∧ InsRow w' a ps.length ps ∧ Below w.heap.size w w'
def ParseAt (s : List UInt8) (N : Nat) (w1 : World) (tv te tk : Value) (wr : World) : Prop :=
  ∃ (k : Nat) (qs : List Ins), k ≤ N ∧ tk = .int .i64 k ∧ te = .nilIface ∧ linesOf ((cutAt 10 s).take k) = some qs ∧ wr.ownsRow w1.heap.size 40 5 tv qs.length (insCells qs) ∧ Below w1.heap.size w1 wr
theorem row_slice {w : World} {B n : Nat} {E : TypeId} {v : Value} {xs : List Value} (h : w.ownsRow B E 5 v n xs) : ∃ a c, v = .slice a n c := by
  rcases h.2 with ⟨e, e2⟩ | ⟨g, cap, cur, e, _⟩
  · exact ⟨_, _, by rw [e, e2]⟩
  · exact ⟨_, _, e⟩

set_option maxRecDepth 100000 in
set_option maxHeartbeats 4000000 in
theorem Parse_good (s : List UInt8) (ps : List Ins) (h : linesOf (cutAt 10 s) = some ps) (hn : ps.length ≤ 48) (hs : s.length ≤ 20000) (w : World) (ht : Tabs w) :
    Calls Tryz.prog 12 #[.string (bsOf s)] w (ParseRet ps w) := by
  have HT := hid ht
  have HL := hid (show s.length < 4294967281 by omega)
  have HS := hid hs
  have HP := hid h
  have HN := hid hn
  have hz := bsOf_size s
  have i1 : ((bsOf s).size : Int) ≤ 20000 := by omega
  have HCL := hid (cutAt_len 10 s)
  have HCE := hid (cutAt_each 10 s)
  clear ht hs h hn hz
  go_enter Tryz.func12, Tryz.ntmps12
  go_wp2_with (go_at_call 22; (with_reducible refine (split_any 10 s _ HT.out HL.out).mono ?_); rintro e w1 ⟨⟨N, rfl, hN⟩, hc1, hlt1, hb1⟩; have HNN := hid hN; have HC1 := hid hc1; have HLT := hid hlt1; have HB1 := hid hb1; clear hN hc1 hlt1 hb1)
  have HGT : Hid (2 < w1.heap.size) := hid (by
    obtain ⟨b0, hb0⟩ := HT.out.text
    exact Nat.lt_of_lt_of_le (World.block_lt_of_cell? w ⟨2, 0, none⟩ hb0) HB1.out.size)
  have n1 : (N : Int) ≤ 20001 := by have := HCL.out; have := HNN.out; have := HS.out; omega
  clear i1
  go_loopw [4, 5, 16] (fun tv te tk wr => ParseAt s N w1 tv te tk wr) (fun _ _ tk _ => N - (intOf tk).toNat)
  case atStart => exact ⟨0, [], Nat.zero_le _, rfl, rfl, rfl, World.ownsRow_nil _ _ _ _, bid w1⟩
  case round =>
    obtain ⟨k, qs, hk, rfl, rfl, hq, hown, hb⟩ := hrel
    obtain ⟨va, vc, rfl⟩ := row_slice hown
    have HQ := hid hq
    have HO := hid hown
    have HB := hid hb
    have hblk : w.heap.size < wr.heap.size := Nat.lt_of_lt_of_le HLT.out hb.size
    have HTW := hid ((HT.out.below HB1.out).below hb)
    clear hq hown hb
    by_cases hlt : k < N
    · have hlN : k < (cutAt 10 s).length := by rw [← HNN.out]; exact hlt
      obtain ⟨l, hl⟩ : ∃ l, (cutAt 10 s)[k]? = some l := ⟨_, List.getElem?_eq_getElem hlN⟩
      have cl : wr.cell? ⟨w.heap.size, k, none⟩ = some (.string (bsOf l)) := (HB.out.cell (p := ⟨w.heap.size, k, none⟩) HLT.out).trans (HC1.out k l hl)
      have hll : l.length ≤ 100000 := by
        have h1 := HCE.out l (List.mem_of_getElem? hl)
        have h2 := HS.out
        omega
      have hnx := linesOf_next HP.out hl HQ.out
      obtain ⟨bt, hbt⟩ := HTW.out.text
      have HBT := hid hbt
      have HLL := hid hll
      have j1 : (0 : Int) ≤ (k : Int) := by omega
      have j2 : (k : Int) < (N : Int) := by omega
      have hq1 := run_eql_nils
      clear hl hll hbt hlN hlt hk
      rcases hnx with ⟨rfl, hnx⟩ | ⟨hne, i, hi, hnx, hcnt⟩
      · have HNX := hid hnx
        clear hnx
        go_wp2_with (first | (go_at_call 23; refine (with_skip _ _ _).mono ?_; rintro e w' ⟨rfl, rfl⟩) | (go_at_call 25; refine (New_text _ bt HBT.out).mono ?_; rintro e w' ⟨rfl, rfl⟩) | (go_at_call 24; refine (Is_nil _ _ _).mono ?_; rintro e w' ⟨rfl, rfl⟩))
        go_roundw
        case rel => exact ⟨k + 1, qs, by omega, by go_num, rfl, HNX.out, HO.out, HB.out⟩
        case measure => simp [intOf]; omega
      · have HNX := hid hnx
        have HI := hid hi
        have HNE := hid hne
        have HCNT := hid (show qs.length < 48 by have := HN.out; omega)
        clear hnx hi hne hcnt
        go_wp2_with (first | (go_at_call 23; go_must (refine (with_good w1.heap.size qs.length vc va qs l i _ _ HTW.out HI.out HNE.out HLL.out HCNT.out rfl HO.out HB.out.size).mono ?_); rintro e w2 ⟨v', rfl, hown', hb'⟩; have HO2 := hid hown'; have HB2 := hid (HB.out.trans hb'); have HBT2 := hid (show w2.cell? ⟨2, 0, none⟩ = _ from (hb'.cell (p := ⟨2, 0, none⟩) HGT.out).trans HBT.out); clear hown' hb') | (go_at_call 25; refine (New_text _ bt HBT2.out).mono ?_; rintro e w' ⟨rfl, rfl⟩) | (go_at_call 24; refine (Is_nil _ _ _).mono ?_; rintro e w' ⟨rfl, rfl⟩))
        go_roundw
        case rel => exact ⟨k + 1, qs ++ [i], by omega, by go_num, rfl, HNX.out, by rw [List.length_append]; exact HO2.out, HB2.out⟩
        case measure => simp [intOf]; omega
    · obtain rfl : k = N := by omega
      have hte : (cutAt 10 s).take k = cutAt 10 s := List.take_of_length_le (by rw [HNN.out]; exact Nat.le_refl _)
      obtain rfl : ps = qs := by
        have h1 := HQ.out
        rw [hte, HP.out] at h1
        exact Option.some.inj h1
      have hq2 := run_neq_nils
      have HR := hid (show ParseRet ps w (.returned (.tuple #[.slice va ps.length vc, .nilIface])) wr from ⟨va, vc, rfl, InsRow.of_own HO.out, HB1.out.trans (HB.out.mono HB1.out.size)⟩)
      clear hte hlt
      go_wp2
      go_ret2
      exact HR.out

end Go.Proofs.YtbobjhadckeieaaGreatDoor
