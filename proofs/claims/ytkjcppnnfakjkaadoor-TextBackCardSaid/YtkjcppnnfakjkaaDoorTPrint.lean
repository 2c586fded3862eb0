/-
  Package text: Print; the document's Print.
-/
import Derived.Test.YtkjcppnnfakjkaaDoorTBuild
import Derived.Test.YtkjcppnnfakjkaaDoorTRLine2
namespace Go.Proofs.YtkjcppnnfakjkaaDoor
open Go.RowKit Go.Shelf
set_option linter.unusedVariables false

def printL (ps : List Ins) : List UInt8 := ps.flatMap fun i => lineL i ++ [10]
/-- What is printed: all lines, or nothing. -/
def printT (ps : List Ins) : List UInt8 := if ps.all mayB = true then printL ps else []
theorem printT_yes {ps : List Ins} (h : ps.all mayB = true) : printT ps = printL ps := if_pos h
theorem printT_no {ps : List Ins} (h : ps.all mayB = false) : printT ps = [] := if_neg (by rw [h]; simp)
theorem printL_snoc (ps : List Ins) (i : Ins) : printL (ps ++ [i]) = printL ps ++ (lineL i ++ [10]) := by simp [printL]
theorem lineL_len {i : Ins} (hn : nOk i.n) : (lineL i).length ≤ 72 := by
  unfold lineL
  split
  · rename_i hm
    have hok := ok_of_may hm hn
    unfold spellL
    split
    · rename_i s hs
      have hmem := List.mem_of_find?_eq_some hs
      have h1 := shps_short s hmem
      have h2 := (shps_fields s hmem).1
      have h3 := tailF_len hok s.fields
      rw [List.length_append]
      omega
    · simp
  · simp
theorem printL_len {ps : List Ins} (h : ∀ i ∈ ps, nOk i.n) : (printL ps).length ≤ 73 * ps.length := by
  induction ps with
  | nil => simp [printL]
  | cons p l ih =>
    have h1 := lineL_len (h p (by simp))
    have h2 := ih fun i hi => h i (by simp [hi])
    simp only [printL, List.flatMap_cons, List.length_append, List.length_cons, List.length_nil] at h2 ⊢
    omega
theorem take_next {ps : List Ins} {k : Nat} {i : Ins} (h : ps[k]? = some i) : ps.take (k + 1) = ps.take k ++ [i] := by
  have hl := (List.getElem?_eq_some_iff.1 h).1
  rw [List.take_succ_eq_append_getElem hl, (List.getElem?_eq_some_iff.1 h).2]

theorem builder_later {T e : TypeId} {B b : Nat} {bs : List Value} {w w' : World} (h : Lib.IsBuilderF T e B b bs w) (hb : Below w.heap.size w w') : Lib.IsBuilderF T e B b bs w' := by
  have key : ∀ {p : Value}, Lib.BuilderAtF T e B b p bs w → Lib.BuilderAtF T e B b p bs w' := by
    intro p ⟨hB, v, hk, hown, hne⟩
    refine ⟨hB, v, (hb.block _ (lt_of_block hk)).trans hk, ⟨hown.1, ?_⟩, hne⟩
    rcases hown.2 with h' | ⟨g, cap, cur, fz, h1, h2, h3, h4⟩
    · exact .inl h'
    · exact .inr ⟨g, cap, cur, fz, h1, h2, (hb.block _ (lt_of_block h3)).trans h3, h4⟩
  rcases h with h | h
  · exact .inl (key h)
  · exact .inr (key h)

set_option maxRecDepth 100000 in
set_option maxHeartbeats 4000000 in
theorem Print_any (a : Option Addr) (n c : Nat) (ps : List Ins) (w : World) (ht : Tabs w) (hr : InsRow w a n ps) (hok : ∀ i ∈ ps, nOk i.n) (hn : n ≤ 1000) :
    Calls Tryd.prog 9 #[.slice a n c] w fun e w' => e = .returned (.tuple #[.string (bsOf (printT ps)), .bool (ps.all mayB)]) ∧ Below w.heap.size w w' := by
  have HT := hid ht
  have HR := hid hr
  have HO := hid hok
  have HC := hid hr.cnt
  have HI0 := hid (Lib.IsBuilderF.of (Lib.fresh_isBuilder 52 5 w))
  have i2 : (n : Int) ≤ 1000 := by omega
  clear ht hr hok
  go_enter Tryd.func9, Tryd.ntmps9
  go_wp2
  go_loopw [11] (fun tk wr => ∃ k : Nat, k ≤ n ∧ tk = .int .i64 k ∧ (ps.take k).all mayB = true ∧ Lib.IsBuilderF 52 5 w.heap.size w.heap.size (Lib.byteCells (printL (ps.take k))) wr ∧ Below w.heap.size w wr) (fun tk _ => n - (intOf tk).toNat)
  case atStart => exact ⟨0, Nat.zero_le _, rfl, rfl, HI0.out, bnew (bid w) _⟩
  case round =>
    obtain ⟨k, hk, rfl, hall, hbu, hb⟩ := hrel
    have HA := hid hall
    have HBU := hid hbu
    have HB := hid hb
    clear hall hbu hb
    by_cases hlt : k < n
    · obtain ⟨b, off, rfl, hbl, hcell⟩ := HR.out.at (by omega)
      obtain ⟨i, hi⟩ : ∃ i, ps[k]? = some i := ⟨_, List.getElem?_eq_getElem (by rw [HC.out]; exact hlt)⟩
      obtain ⟨c0, c1, c2, c3, c4⟩ := (hcell k i hi).keep (HB.out.block b hbl)
      have hio := HO.out i (List.mem_of_getElem? hi)
      have HI := hid hi
      have HLN := hid (fun W hT => Line_any i hio W hT)
      have HLL := hid (lineL_len hio)
      have HPL := hid (show (printL (ps.take k)).length ≤ 73 * 1000 by
        have h1 := printL_len (ps := ps.take k) fun j hj => HO.out j (List.mem_of_mem_take hj)
        rw [List.length_take] at h1; omega)
      have j1 : (0 : Int) ≤ (k : Int) := by omega
      have j2 : (k : Int) < (n : Int) := by omega
      have hbw : b < wr.heap.size := Nat.lt_of_lt_of_le hbl HB.out.size
      have hne : ¬ b = wr.heap.size := by omega
      clear hcell hi hio hlt hk
      cases hm : mayB i
      case false =>
        have LN := HLN.out
        rw [hm] at LN
        dsimp only [Ins.v] at LN
        have HL2 := hid LN
        have HF := hid (show ps.all mayB = false by
          rw [List.all_eq_false]
          exact ⟨i, List.mem_of_getElem? HI.out, by rw [hm]; simp⟩)
        clear LN HLN hm
        go_wp2_with (go_at_call 7; (with_reducible refine (HL2.out _ ((HT.out.below HB.out).below (bnew (bid wr) _))).mono ?_); rintro e w2 ⟨rfl, hb2⟩; have HB2 := hid (bthen (bnew HB.out _) hb2); clear hb2)
        go_ret2
        exact ⟨by rw [printT_no HF.out, HF.out] <;> rfl, HB2.out⟩
      case true =>
        have LN := HLN.out
        rw [hm] at LN
        dsimp only [Ins.v] at LN
        have HL2 := hid LN
        have HM := hid hm
        clear LN HLN hm
        go_wp2_with (first | (go_at_call 7; (with_reducible refine (HL2.out _ ((HT.out.below HB.out).below (bnew (bid wr) _))).mono ?_); rintro e w2 ⟨rfl, hb2⟩; have HB2 := hid (bthen (bnew HB.out _) hb2); have HU2 := hid (builder_later (builder_later HBU.out (bnew (bid wr) _)) hb2); clear hb2) | (go_at_call 20; refine (WriteString_any w.heap.size w.heap.size _ (lineL i) _ HU2.out (by rw [Lib.byteCells_length]; have := HLL.out; have := HPL.out; omega) HB2.out.size).mono ?_; rintro e w3 ⟨rfl, hu3, hb3⟩; have HU3 := hid hu3; have HB3 := hid (HB2.out.trans hb3); clear hu3 hb3) | (go_at_call 21; refine (WriteByte_any w.heap.size w.heap.size _ 10 _ HU3.out (by rw [List.length_append, Lib.byteCells_length, Lib.byteCells_length]; have := HLL.out; have := HPL.out; omega) HB3.out.size).mono ?_; rintro e w4 ⟨rfl, hu4, hb4⟩; have HU4 := hid hu4; have HB4 := hid (HB3.out.trans hb4); clear hu4 hb4))
        go_roundw
        case rel =>
          refine ⟨k + 1, by omega, by go_num, ?_, ?_, HB4.out⟩
          · rw [take_next HI.out, List.all_append, HA.out]; simp [HM.out]
          · have h := HU4.out
            rw [take_next HI.out, printL_snoc, Lib.byteCells_append, Lib.byteCells_append, ← List.append_assoc]
            exact h
        case measure => simp [intOf]; omega
    · obtain rfl : k = n := by omega
      have hte : ps.take k = ps := List.take_of_length_le (by rw [HC.out]; exact Nat.le_refl _)
      have HF := hid (show ps.all mayB = true by rw [← hte]; exact HA.out)
      have HU := HBU.out
      rw [hte] at HU
      have HU2 := hid HU
      clear hte HU hlt
      go_wp2_with (go_at_call 22; refine (Tryd.Builder_String_any_k w.heap.size w.heap.size (printL ps) _ HU2.out HB.out.size).mono ?_; rintro e w5 ⟨rfl, _, hb5, _⟩; have HB5 := hid (HB.out.trans hb5); clear hb5)
      go_ret2
      exact ⟨by rw [printT_yes HF.out, HF.out] <;> rfl, HB5.out⟩

set_option maxRecDepth 100000 in
set_option maxHeartbeats 4000000 in
theorem refPrint_any (a : Option Addr) (n c : Nat) (ps : List Ins) (w : World) (hr : InsRow w a n ps) (hok : ∀ i ∈ ps, nOk i.n) (hn : n ≤ 1000) :
    Calls Tryd.prog 10 #[.slice a n c] w fun e w' => e = .returned (.tuple #[.string (bsOf (printT ps)), .bool (ps.all mayB)]) ∧ Below w.heap.size w w' := by
  have HR := hid hr
  have HO := hid hok
  have HC := hid hr.cnt
  have i2 : (n : Int) ≤ 1000 := by omega
  clear hr hok
  go_enter Tryd.func10, Tryd.ntmps10
  go_wp2
  go_loopw [4, 5] (fun ts tk wr => ∃ k : Nat, k ≤ n ∧ tk = .int .i64 k ∧ ts = .string (bsOf (printL (ps.take k))) ∧ (ps.take k).all mayB = true ∧ Below w.heap.size w wr) (fun _ tk _ => n - (intOf tk).toNat)
  case atStart => exact ⟨0, Nat.zero_le _, rfl, rfl, rfl, bid w⟩
  case round =>
    obtain ⟨k, hk, rfl, rfl, hall, hb⟩ := hrel
    have HA := hid hall
    have HB := hid hb
    clear hall hb
    by_cases hlt : k < n
    · obtain ⟨b, off, rfl, hbl, hcell⟩ := HR.out.at (by omega)
      obtain ⟨i, hi⟩ : ∃ i, ps[k]? = some i := ⟨_, List.getElem?_eq_getElem (by rw [HC.out]; exact hlt)⟩
      obtain ⟨c0, c1, c2, c3, c4⟩ := (hcell k i hi).keep (HB.out.block b hbl)
      have hio := HO.out i (List.mem_of_getElem? hi)
      have HI := hid hi
      have LN := fun W => refLine_any i hio W
      have HLL := lineL_len hio
      have HPL := show (printL (ps.take k)).length ≤ 73 * 1000 by
        have h1 := printL_len (ps := ps.take k) fun j hj => HO.out j (List.mem_of_mem_take hj)
        rw [List.length_take] at h1; omega
      have hlen : ¬ 9223372036854775807 < (bsOf (printL (ps.take k))).size + ((bsOf (lineL i)).size + 1) := by rw [bsOf_size, bsOf_size]; omega
      have HAP := hid (show bsOf (printL (ps.take k)) ++ (bsOf (lineL i) ++ (⟨#[10]⟩ : ByteArray)) = bsOf (printL (ps.take (k + 1))) by
        rw [take_next hi, printL_snoc]
        apply ByteArray.ext
        simp [bsOf])
      have j1 : (0 : Int) ≤ (k : Int) := by omega
      have j2 : (k : Int) < (n : Int) := by omega
      have hbw : b < wr.heap.size := Nat.lt_of_lt_of_le hbl HB.out.size
      have hl2 : ¬ 9223372036854775807 < (bsOf (lineL i)).size + 1 := by rw [bsOf_size]; omega
      clear hcell hi hio hlt hk HLL HPL
      cases hm : mayB i
      case false =>
        rw [hm] at LN
        dsimp only [Ins.v] at LN
        have HL2 := hid LN
        have HF := hid (show ps.all mayB = false by
          rw [List.all_eq_false]
          exact ⟨i, List.mem_of_getElem? HI.out, by rw [hm]; simp⟩)
        clear LN hm
        go_wp2_with (go_at_call 8; (with_reducible refine (HL2.out _).mono ?_); rintro e w2 ⟨rfl, hb2⟩; have HB2 := hid (bthen HB.out hb2); clear hb2)
        go_ret2
        exact ⟨by rw [printT_no HF.out, HF.out] <;> rfl, HB2.out⟩
      case true =>
        rw [hm] at LN
        dsimp only [Ins.v] at LN
        have HL2 := hid LN
        have HM := hid hm
        clear LN hm
        go_wp2_with (go_at_call 8; (with_reducible refine (HL2.out _).mono ?_); rintro e w2 ⟨rfl, hb2⟩; have HB2 := hid (bthen HB.out hb2); clear hb2)
        go_roundw
        case rel =>
          refine ⟨k + 1, by omega, by go_num, ?_, ?_, HB2.out⟩
          · exact congrArg _ HAP.out
          · rw [take_next HI.out, List.all_append, HA.out]; simp [HM.out]
        case measure => simp [intOf]; omega
    · obtain rfl : k = n := by omega
      have hte : ps.take k = ps := List.take_of_length_le (by rw [HC.out]; exact Nat.le_refl _)
      have HF := hid (show ps.all mayB = true by rw [← hte]; exact HA.out)
      have HTE := hid hte
      clear hte hlt
      go_wp2
      go_ret2
      exact ⟨by rw [printT_yes HF.out, HF.out, HTE.out] <;> rfl, HB.out⟩

end Go.Proofs.YtkjcppnnfakjkaaDoor
