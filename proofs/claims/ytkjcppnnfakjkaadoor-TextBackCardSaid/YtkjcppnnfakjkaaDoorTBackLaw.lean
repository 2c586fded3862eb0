/-
  TextBack, walked.
-/
import Derived.Test.YtkjcppnnfakjkaaDoorTAsks
import Derived.Deep.DeepCutAuto
namespace Go.Proofs.YtkjcppnnfakjkaaDoor
open Go.RowKit
set_option linter.unusedVariables false

/-- Every end doubled. -/
def gapL (l : List UInt8) : List UInt8 := l.flatMap fun c => if c = 10 then [10, 10] else [c]
def gapsL (l : List UInt8) : List UInt8 := 10 :: gapL l
theorem gapL_append (a b : List UInt8) : gapL (a ++ b) = gapL a ++ gapL b := by simp [gapL]
theorem gapL_clean {l : List UInt8} (h : 10 ∉ l) : gapL l = l := by
  induction l with
  | nil => rfl
  | cons x r ih =>
    have h1 : ¬ x = 10 := fun e => h (by simp [e])
    have h2 : 10 ∉ r := fun e => h (by simp [e])
    have e : gapL (x :: r) = [x] ++ gapL r := by simp [gapL, h1]
    rw [e, ih h2]; rfl
theorem cut_gaps : ∀ (ps : List Ins), ps.all mayB = true → cutAt 10 (gapL (printL ps)) = (ps.flatMap fun i => [lineL i, []]) ++ [[]] := by
  intro ps
  induction ps with
  | nil => intro _; rfl
  | cons p l ih =>
    intro h
    rw [List.all_cons, Bool.and_eq_true] at h
    have e : printL (p :: l) = lineL p ++ ([10] ++ printL l) := by simp [printL]
    have e2 : gapL (printL (p :: l)) = lineL p ++ 10 :: ([] ++ 10 :: gapL (printL l)) := by
      rw [e, gapL_append, gapL_append, gapL_clean (line_no_end p h.1)]
      rfl
    rw [e2, cutAt_hit (line_no_end p h.1), cutAt_hit (by simp), ih h.2]
    rfl
theorem lines_gaps : ∀ (ps : List Ins), ps.all mayB = true → (∀ i ∈ ps, nOk i.n) → linesOf ((ps.flatMap fun i => [lineL i, []]) ++ [[]]) = some ps := by
  intro ps
  induction ps with
  | nil => intro _ _; simp [linesOf]
  | cons p l ih =>
    intro h hn
    rw [List.all_cons, Bool.and_eq_true] at h
    have e : ((p :: l).flatMap fun i => [lineL i, []]) ++ [[]] = lineL p :: [] :: ((l.flatMap fun i => [lineL i, []]) ++ [[]]) := by simp
    rw [e]
    have ih' := ih h.2 fun i hi => hn i (by simp [hi])
    rw [linesOf, if_neg (line_ne p h.1), instr_back p h.1 (hn p (by simp)), linesOf, if_pos rfl, ih']
theorem gaps_back {ps : List Ins} (h : ps.all mayB = true) (hn : ∀ i ∈ ps, nOk i.n) : linesOf (cutAt 10 (gapsL (printL ps))) = some ps := by
  have e : gapsL (printL ps) = [] ++ 10 :: gapL (printL ps) := rfl
  rw [e, cutAt_hit (by simp), cut_gaps ps h, linesOf, if_pos rfl]
  exact lines_gaps ps h hn
theorem print_back {ps : List Ins} (h : ps.all mayB = true) (hn : ∀ i ∈ ps, nOk i.n) : linesOf (cutAt 10 (printL ps)) = some ps := by
  rw [cut_print ps h]
  exact lines_back ps h hn
theorem gapL_len (l : List UInt8) : (gapL l).length ≤ 2 * l.length := by
  induction l with
  | nil => simp [gapL]
  | cons x r ih =>
    have e : gapL (x :: r) = (if x = 10 then [10, 10] else [x]) ++ gapL r := by simp [gapL]
    rw [e, List.length_append, List.length_cons]
    split <;> simp <;> omega
theorem gapL_take {l : List UInt8} {k : Nat} (h : k < l.length) : gapL (l.take (k + 1)) = gapL (l.take k) ++ (if l[k] = 10 then [10, 10] else [l[k]]) := by
  rw [List.take_succ_eq_append_getElem h, gapL_append]
  congr 1
  simp [gapL]

set_option maxRecDepth 100000 in
set_option maxHeartbeats 4000000 in
theorem same_yes (a1 a2 : Option Addr) (n c1 c2 : Nat) (ps : List Ins) (w : World) (h1 : InsRow w a1 n ps) (h2 : InsRow w a2 n ps) (hn : n ≤ 1000) :
    Calls Tryd.prog 12 #[.slice a1 n c1, .slice a2 n c2] w fun e w' => e = .returned (.bool true) ∧ Below w.heap.size w w' := by
  have H1 := hid h1
  have H2 := hid h2
  have i2 : (n : Int) ≤ 1000 := by omega
  clear h1 h2
  go_enter Tryd.func12, Tryd.ntmps12
  go_wp2
  go_loopw [5] (fun tk wr => ∃ k : Nat, k ≤ n ∧ tk = .int .i64 k ∧ Below w.heap.size w wr) (fun tk _ => n - (intOf tk).toNat)
  case atStart => exact ⟨0, Nat.zero_le _, rfl, bid w⟩
  case round =>
    obtain ⟨k, hk, rfl, hb⟩ := hrel
    have HB := hid hb
    clear hb
    by_cases hlt : k < n
    · obtain ⟨b1, o1, rfl, hb1, hc1⟩ := H1.out.at (by omega)
      obtain ⟨b2, o2, rfl, hb2, hc2⟩ := H2.out.at (by omega)
      obtain ⟨i, hi⟩ : ∃ i, ps[k]? = some i := ⟨_, List.getElem?_eq_getElem (by rw [H1.out.cnt]; exact hlt)⟩
      obtain ⟨c0, c1, c2, c3, c4⟩ := (hc1 k i hi).keep (HB.out.block b1 hb1)
      obtain ⟨d0, d1, d2, d3, d4⟩ := (hc2 k i hi).keep (HB.out.block b2 hb2)
      have j1 : (0 : Int) ≤ (k : Int) := by omega
      have j2 : (k : Int) < (n : Int) := by omega
      clear hc1 hc2 hi hb1 hb2
      go_wp2
      go_quiet (fail)
      go_wp2
      go_roundw
      case rel => exact ⟨k + 1, by omega, by go_num, bdrewN HB.out⟩
      case measure => simp [intOf]; omega
    · obtain rfl : k = n := by omega
      clear hlt
      go_wp2
      go_ret
      exact ⟨rfl, HB.out⟩

theorem same_at {m n : Nat} (h : m = n) (a1 a2 : Option Addr) (c1 c2 : Nat) (ps : List Ins) (w : World) (h1 : InsRow w a1 n ps) (h2 : InsRow w a2 m ps) (hn : n ≤ 1000) :
    Calls Tryd.prog 12 #[.slice a1 n c1, .slice a2 m c2] w fun e w' => e = .returned (.bool true) ∧ Below w.heap.size w w' := by
  subst h
  exact same_yes a1 a2 m c1 c2 ps w h1 h2 hn

set_option maxRecDepth 100000 in
set_option maxHeartbeats 4000000 in
theorem back_long (a : Option Addr) (n c : Nat) (g : Bool) (w : World) (ht : Tabs w) (hn : 40 < n) :
    Calls Tryd.prog 4 #[.slice a n c, .bool g] w fun e w' => e = .returned (.bool true) ∧ Below w.heap.size w w' := by
  have HT := hid ht
  have i1 : (40 : Int) < (n : Int) := by omega
  clear ht
  go_enter Tryd.func4, Tryd.ntmps4
  go_wp2_with (go_at_call 5; refine (told5 _ HT.out).mono ?_; rintro e w1 ⟨rfl, hb1⟩; have HB := hid hb1; clear hb1)
  go_ret
  exact ⟨rfl, HB.out⟩

set_option maxRecDepth 100000 in
set_option maxHeartbeats 8000000 in
theorem back_walk (a : Option Addr) (n c : Nat) (g : Bool) (rs : List Rw) (w : World) (ht : Tabs w) (hr : Rows6 w a n rs) (hn : n ≤ 40) :
    Calls Tryd.prog 4 #[.slice a n c, .bool g] w fun e w' => e = .returned (.bool true) ∧ Below w.heap.size w w' := by
  have HT := hid ht
  have HR := hid hr
  have HN := hid (show n ≤ 1000 by omega)
  have HN4 := hid hn
  have i1 : (n : Int) ≤ 40 := by omega
  clear ht hr
  go_enter Tryd.func4, Tryd.ntmps4
  go_wp2
  go_loopw [5] (fun tk wr => ∃ k : Nat, k ≤ n ∧ tk = .int .i64 k ∧ (∀ r ∈ rs.take k, r.raw = false) ∧ wr = w) (fun tk _ => n - (intOf tk).toNat)
  case atStart => exact ⟨0, Nat.zero_le _, rfl, by simp, rfl⟩
  case round =>
    obtain ⟨k, hk, rfl, hall, rfl⟩ := hrel
    have HA := hid hall
    clear hall
    by_cases hlt : k < n
    · obtain ⟨b, off, rfl, hcell⟩ := HR.out.at (by omega)
      obtain ⟨⟨k0, k1, k2, k3, rn, raw⟩, hrk⟩ : ∃ r, rs[k]? = some r := ⟨_, List.getElem?_eq_getElem (by rw [HR.out.cnt]; exact hlt)⟩
      have c5 := (hcell k _ hrk).c5
      dsimp only at c5
      have HRK := hid hrk
      have j1 : (0 : Int) ≤ (k : Int) := by omega
      have j2 : (k : Int) < (n : Int) := by omega
      clear hcell hrk
      cases raw
      · go_wp2
        go_roundw
        case rel =>
          refine ⟨k + 1, by omega, by go_num, fun r hr => ?_, by trivial⟩
          have hl := (List.getElem?_eq_some_iff.1 HRK.out).1
          rw [List.take_succ_eq_append_getElem hl, (List.getElem?_eq_some_iff.1 HRK.out).2] at hr
          rcases List.mem_append.1 hr with hr | hr
          · exact HA.out r hr
          · simp at hr; subst hr; rfl
        case measure => simp [intOf]; omega
      · go_wp2_with (go_at_call 5; refine (told5 _ HT.out).mono ?_; rintro e w1 ⟨rfl, hb1⟩; have HB := hid hb1; clear hb1)
        go_ret
        exact ⟨rfl, HB.out⟩
    · obtain rfl : k = n := by omega
      have HALL := hid (show ∀ r ∈ rs, r.raw = false by
        have := HA.out
        rw [List.take_of_length_le (by rw [HR.out.cnt]; exact Nat.le_refl _)] at this
        exact this)
      clear hlt HA
      go_upto_region 10 with (first | (go_at_call 6; refine (Prog_any a k c rs _ HR.out HN.out).mono ?_; rintro e w1 ⟨a1, c1, ps, rfl, hir, hok, hmay, hb1⟩; have HI1 := hid hir; have HOK := hid hok; have HM := hid (hmay HALL.out); have HB1 := hid hb1; clear hir hok hmay hb1) | (go_at_call 9; refine (Print_any _ _ _ ps _ (HT.out.below HB1.out) HI1.out HOK.out HN.out).mono ?_; rintro e w2 ⟨rfl, hb2⟩; have HB2 := hid hb2; clear hb2))
      rw [HM.out, printT_yes HM.out]
      have HPL := hid (show (printL ps).length ≤ 73 * 40 by
        have h1 := printL_len HOK.out
        have h2 := HI1.out.cnt
        have h3 := HN4.out
        omega)
      have HT2 := hid ((HT.out.below HB1.out).below HB2.out)
      have HI2 := hid (HI1.out.below HB2.out)
      have HCN := hid HI1.out.cnt
      have HBW := hid (bthen HB1.out HB2.out)
      clear HI1 HB1 HT HR
      go_upto_if 38 with fail
      go_cut [7] (fun s7 wc => (∃ l, s7 = .string (bsOf l) ∧ linesOf (cutAt 10 l) = some ps ∧ l.length ≤ 20000) ∧ wc = w2)
      case first =>
        cases g
        · have HPB := hid (print_back HM.out HOK.out)
          go_wp2
          go_meet
          case rel => exact ⟨⟨_, rfl, HPB.out, by have := HPL.out; omega⟩, by trivial⟩
        · have HPB := hid (gaps_back HM.out HOK.out)
          have HGL := hid (gapL_len (printL ps))
          generalize hL : printL ps = L at HPB HPL HGL ⊢
          clear hL
          have hz := bsOf_size L
          have l1 : ((bsOf L).size : Int) ≤ 3000 := by have := HPL.out; omega
          go_wp2
          go_loopw [9, 10] (fun t9 tk wr => ∃ k : Nat, k ≤ (bsOf L).size ∧ tk = .int .i64 k ∧ t9 = .string (bsOf (10 :: gapL (L.take k))) ∧ wr = w2) (fun _ tk _ => (bsOf L).size - (intOf tk).toNat)
          case atStart => exact ⟨0, Nat.zero_le _, rfl, rfl, rfl⟩
          case round =>
            obtain ⟨k, hk, rfl, rfl, rfl⟩ := hrel
            by_cases hlt : k < (bsOf L).size
            · have hkL : k < L.length := by rw [← hz]; exact hlt
              have hex : (bsOf L).extract k (k + 1) = bsOf [L[k]] := by
                apply ByteArray.ext
                rw [ByteArray.data_extract]
                apply Array.toList_inj.1
                simp only [Array.toList_extract, bsOf]
                rw [List.extract_eq_take_drop, show k + 1 - k = 1 by omega, List.drop_eq_getElem_cons hkL]
                rfl
              have hb0 : (bsOf L)[k]'hlt = L[k] := rfl
              have hgt := gapL_take hkL
              have HLN := hid (show (10 :: gapL (L.take k)).length ≤ 6001 by
                have h1 := gapL_len (L.take k)
                have h2 := HPL.out
                rw [List.length_take] at h1
                rw [List.length_cons]; omega)
              have hl1 : ¬ 9223372036854775807 < (bsOf (10 :: gapL (L.take k))).size + (bsOf [L[k]]).size := by rw [bsOf_size, bsOf_size]; have := HLN.out; simp at this ⊢; omega
              have hap1 := bsOf_append (10 :: gapL (L.take k)) [L[k]]
              have j1 : (0 : Int) ≤ (k : Int) := by omega
              have j2 : (k : Int) < ((bsOf L).size : Int) := by omega
              generalize L[k] = x at hex hb0 hgt hl1 hap1
              have HGT := hid hgt
              clear hgt hkL
              by_cases hx : x = 10
              · subst hx
                have HE := hid (show gapL (L.take (k + 1)) = gapL (L.take k) ++ [10, 10] by rw [HGT.out]; rfl)
                have hl2 : ¬ 9223372036854775807 < (bsOf (10 :: gapL (L.take k) ++ [10])).size + 1 := by rw [bsOf_size]; have := HLN.out; simp at this ⊢; omega
                go_wp2
                go_roundw
                case rel =>
                  refine ⟨k + 1, by omega, by go_num, ?_, by trivial⟩
                  rw [HE.out]
                  congr 1
                  apply ByteArray.ext
                  simp [bsOf]
                case measure => simp [intOf]; omega
              · have HE := hid (show gapL (L.take (k + 1)) = gapL (L.take k) ++ [x] by rw [HGT.out, if_neg hx])
                have hx2 : ¬ x.toNat = 10 := fun h => hx (by apply UInt8.toNat_inj.1; exact h)
                have hx3 : ((x.toNat : Int) == 10) = false := by simp; omega
                go_wp2
                go_roundw
                case rel =>
                  refine ⟨k + 1, by omega, by go_num, ?_, by trivial⟩
                  rw [HE.out] <;> rfl
                case measure => simp [intOf]; omega
            · obtain rfl : k = (bsOf L).size := by omega
              have hte : L.take (bsOf L).size = L := List.take_of_length_le (by rw [hz]; exact Nat.le_refl _)
              have HTE := hid hte
              clear hte hlt
              go_wp2
              go_meet
              case rel => exact ⟨⟨gapsL L, by rw [HTE.out]; rfl, HPB.out, by have := HGL.out; have := HPL.out; unfold gapsL; rw [List.length_cons]; omega⟩, by trivial⟩
      case rest =>
      obtain ⟨⟨l, rfl, hl, hll⟩, rfl⟩ := hcut
      have HL := hid hl
      have HLL := hid hll
      have HN8 := hid (show ps.length ≤ 48 by have := HCN.out; have := HN4.out; omega)
      have q1 := run_eql_nils
      clear hl hll
      go_upto_region 22 with (go_at_call 11; refine (Parse_good l ps HL.out HN8.out HLL.out _ HT2.out).mono ?_; rintro e w3 ⟨a3, c3, rfl, hir3, hb3⟩; have HI3 := hid hir3; have HB3 := hid hb3; clear hir3 hb3)
      go_wp2_with (first | (go_at_call 5; refine (told5 _ (HT2.out.below HB3.out)).mono ?_; rintro e w4 ⟨rfl, hb4⟩; have HB4 := hid (bthen HB3.out hb4); have HI4 := hid (And.intro (HI2.out.below (bthen HB3.out hb4)) (HI3.out.below hb4)); clear hb4) | (go_at_call 12; refine (same_at HCN.out _ _ _ _ ps _ HI4.out.1 HI4.out.2 HN.out).mono ?_; rintro e w5 ⟨rfl, hb5⟩; have HB5 := hid (bthen HB4.out hb5); clear hb5))
      go_ret
      exact ⟨rfl, bthen HBW.out HB5.out⟩

theorem back_all (a : Option Addr) (n c : Nat) (g : Bool) (rs : List Rw) (w : World) (ht : Tabs w) (hr : Rows6 w a n rs) :
    Calls Tryd.prog 4 #[.slice a n c, .bool g] w fun e w' => e = .returned (.bool true) ∧ Below w.heap.size w w' := by
  rcases Nat.lt_or_ge 40 n with h | h
  · exact back_long a n c g w ht h
  · exact back_walk a n c g rs w ht hr h

end Go.Proofs.YtkjcppnnfakjkaaDoor
