/-
  BlameText, walked.
-/
import Derived.Test.YtbobjhadckeieaaDoorBText
namespace Go.Proofs.YtbobjhadckeieaaDoor
open Go.RowKit
set_option linter.unusedVariables false

theorem Err.head {w : World} {sb : Nat → Addr} {c n : Nat} {ks : List (Nat × Addr)} {tf pf : Nat → Int} {T : Nat} {b : Addr} (h : Err w sb c ks tf pf) (hk : ks.getD 0 k0 = (T, b)) (hl : ks.length = n + 1) (hp : 0 < n) : ∃ q, T = 51 ∧ b = ⟨q, 0, none⟩ ∧ ks[0]? = some (51, ⟨q, 0, none⟩) := by
  obtain ⟨q, x, h1, _⟩ := h.first (by omega)
  have e : ks.getD 0 k0 = (51, ⟨q, 0, none⟩) := by simp [List.getD_eq_getElem?_getD, h1]
  rw [e] at hk
  obtain ⟨rfl, rfl⟩ := Prod.mk.inj hk
  exact ⟨q, rfl, rfl, h1⟩

set_option maxRecDepth 100000 in
set_option maxHeartbeats 8000000 in
theorem btext_all {sb : Nat → Addr} (x : Int) (a : Option Addr) (n cap : Nat) (zs : List (Int × Int)) (w : World) (hE : Ers sb w) (hT : Lib.TabIs Tryd.prog w "internal/strconv.uint64pow10" .u64 Lib.pow10Tab) (hr : PairRow w a n zs) (hz : AllIn zs) (hn : n ≤ maxLen) :
    Calls Tryd.prog 5 #[.int .i64 x, .slice a n cap] w fun e w' => e = .returned (.bool true) ∧ Below w.heap.size w w' := by
  unfold maxLen at hn
  have HE := hid hE
  have HR := hid hr
  have HTB := hid hT
  have HZ := hid hz
  clear hE hr hT hz
  obtain ⟨c1, c2⟩ := codeN_in x
  have HCO := hid (fun W => code_any x W)
  generalize codeN x = c at c1 c2 HCO
  have hn' : (n : Int) ≤ 9223372036854775807 := by omega
  by_cases h20 : 20 < n
  · have e20 : (20 : Int) < (n : Int) := by omega
    go_enter Tryd.func5, Tryd.ntmps5
    go_wp2_with (go_at_call 12; (with_reducible refine (told1 _ HE.out).mono ?_); rintro e w1 ⟨rfl, hb⟩; have HB1 := hid hb; clear hb)
    go_ret
    exact ⟨rfl, HB1.out⟩
  have e20 : ¬ (20 : Int) < (n : Int) := by omega
  have hn20 : n ≤ 20 := by omega
  have HCI := hid (codeText_itoa c c1 c2)
  have HDC := hid (fun W => Decimal_all (c : Int) ⟨by omega, by omega⟩ W)
  have HLC := hid (itoa_len (c : Int) (by omega) (by omega))
  clear hn
  go_enter Tryd.func5, Tryd.ntmps5
  go_wp2_with fail
  go_loopw [5, 6] (fun s i wr => ∃ k : Nat, k ≤ n ∧ i = .int .i64 k ∧ s = .string (bsOf (partsL (tfF zs 0) (pfF zs 0) k)) ∧ Below w.heap.size w wr) (fun _ i _ => n - (intOf i).toNat)
  case atStart => exact ⟨0, Nat.zero_le _, rfl, rfl, bid w⟩
  case round =>
    obtain ⟨k, hk, rfl, rfl, hb⟩ := hrel
    have HB := hid hb
    clear hb
    by_cases hlt : k < n
    · obtain ⟨g, off, rfl, hgl, hcell⟩ := HR.out.at (by omega)
      have hkz : k < zs.length := by rw [HR.out.cnt]; exact hlt
      have hz0 := hcell k zs[k] (List.getElem?_eq_getElem hkz)
      have hin := HZ.out zs[k] (List.getElem_mem hkz)
      have HPS := hid (partsL_succ (tfF zs 0) (pfF zs 0) k)
      have htf : tfF zs 0 k = zs[k].1 := by
        show (zs.getD (0 + k) (0, 0)).1 = _
        rw [Nat.zero_add]
        simp [List.getD, hkz]
      have hpf : pfF zs 0 k = zs[k].2 := by
        show (zs.getD (0 + k) (0, 0)).2 = _
        rw [Nat.zero_add]
        simp [List.getD, hkz]
      rw [htf, hpf] at HPS
      have hcl := HZ.out.len k
      generalize partsL (tfF zs 0) (pfF zs 0) k = cur at HPS hcl ⊢
      generalize zs[k] = z at hz0 hin HPS
      obtain ⟨z1, z2⟩ := z
      dsimp only at hz0 hin HPS
      have HD1 := hid (fun W => Decimal_all z1 hin.1 W)
      have HD2 := hid (fun W => Decimal_all z2 hin.2 W)
      have hl1 := itoa_len z1 hin.1.1 hin.1.2
      have hl2 := itoa_len z2 hin.2.1 hin.2.2
      have HPB := hid (part_bytes cur (Lib.itoa z1) (Lib.itoa z2))
      have HPL : Hid (partL z1 z2 = [116, 104, 114, 101, 97, 100, 32] ++ Lib.itoa z1 ++ [44, 32, 112, 108, 97, 99, 101, 32] ++ Lib.itoa z2 ++ [58, 32]) := hid rfl
      rw [← HPL.out, ← HPS.out] at HPB
      generalize Lib.itoa z1 = d1 at HD1 hl1 HPB
      generalize Lib.itoa z2 = d2 at HD2 hl2 HPB
      have q1 : ¬ 9223372036854775807 < 7 + (bsOf d1).size := by rw [bsOf_size]; omega
      have q2 : ¬ 9223372036854775807 < 7 + (bsOf d1).size + 8 := by rw [bsOf_size]; omega
      have q3 : ¬ 9223372036854775807 < 7 + (bsOf d1).size + 8 + (bsOf d2).size := by rw [bsOf_size, bsOf_size]; omega
      have q4 : ¬ 9223372036854775807 < 7 + (bsOf d1).size + 8 + (bsOf d2).size + 2 := by rw [bsOf_size, bsOf_size]; omega
      have q5 : ¬ 9223372036854775807 < (bsOf cur).size + (7 + (bsOf d1).size + 8 + (bsOf d2).size + 2) := by rw [bsOf_size, bsOf_size, bsOf_size]; omega
      have HKB := hid (fun (W : World) (hW : Below wr.heap.size wr W) => (show W.cell? ⟨g, off + k * 2, none⟩ = some (.int .i64 z1) ∧ W.cell? ⟨g, off + k * 2 + 1, none⟩ = some (.int .i64 z2) from ⟨((HB.out.trans (hW.mono HB.out.size)).cell (p := ⟨g, off + k * 2, none⟩) hgl).trans hz0.1, ((HB.out.trans (hW.mono HB.out.size)).cell (p := ⟨g, off + k * 2 + 1, none⟩) hgl).trans hz0.2⟩))
      have i0 : (0 : Int) ≤ (k : Int) := by omega
      have i1 : (k : Int) < ((n : Nat) : Int) := by omega
      obtain ⟨s1, s2⟩ := HKB.out wr (bid wr)
      clear hcell hkz hin htf hpf hcl hl1 hl2 HPL HPS
      go_upto_region 7 with fail
      go_region_held3 (fun w' => w'.cell? ⟨g, off + k * 2, none⟩ = some (.int .i64 z1) ∧ w'.cell? ⟨g, off + k * 2 + 1, none⟩ = some (.int .i64 z2)) (first | exact HKB.out _ (bid wr) | exact HKB.out _ (bdrew (bid wr)) | exact HKB.out _ HB2.out | exact HKB.out _ HB1.out) (first | (go_at_call 18; (with_reducible refine (HD1.out _).mono ?_); rintro e w1 ⟨rfl, hb1⟩; have HB1 := hid (bthen (bdrew (bid wr)) hb1); clear hb1) | (go_at_call 18; (with_reducible refine (HD2.out _).mono ?_); rintro e w2 ⟨rfl, hb2⟩; have HB2 := hid (bthen HB1.out hb2); clear hb2))
      all_goals
        go_wp2
        go_roundw
        case rel => exact ⟨k + 1, by omega, by go_num, by rw [← HPB.out], bthen HB.out HB2.out⟩
        case measure => simp [intOf]; omega
    · obtain rfl : k = n := by omega
      have hcl := HZ.out.len k
      have HWL : Hid (wholeL zs k c = partsL (tfF zs 0) (pfF zs 0) k ++ ([99, 111, 100, 101, 32] ++ Lib.itoa (c : Int))) := hid (by unfold wholeL; rw [HCI.out])
      have HTX := hid (fun (W : World) (hW : Below w.heap.size w W) {ks : List (Nat × Addr)} {T : Nat} {b : Addr} (h : Err W sb c ks (tfF zs 0) (pfF zs 0)) (hk : ks.getD 0 k0 = (T, b)) (hl : ks.length = k + 1) => text1 c1 c2 (HE.out.below hW) h hk hl hn20 HZ.out (tabIs_below HTB.out hW))
      have HER := hid (fun (W : World) (hW : Below w.heap.size w W) {ks : List (Nat × Addr)} {b : Nat} (h : Err W sb c ks (tfF zs 0) (pfF zs 0)) (hk : ks[0]? = some (51, ⟨b, 0, none⟩)) (hl : ks.length = k + 1) (hp : 0 < k) => error1 c1 c2 (HE.out.below hW) h hk hl hp hn20 HZ.out (tabIs_below HTB.out hW))
      have hws : (wholeL zs k c).length ≤ 2000 := by
        rw [HWL.out, List.length_append, List.length_append]
        have := HLC.out
        simp only [List.length_cons, List.length_nil]
        omega
      have HCB := hid (code_bytes (partsL (tfF zs 0) (pfF zs 0) k) (Lib.itoa (c : Int)))
      rw [← HWL.out] at HCB
      generalize wholeL zs k c = whole at HCB HTX HER hws
      generalize partsL (tfF zs 0) (pfF zs 0) k = cur at HCB hcl HWL ⊢
      clear HWL
      have hl1 := HLC.out
      generalize Lib.itoa (c : Int) = d1 at HDC hl1 HCB
      have q1 : ¬ 9223372036854775807 < 5 + (bsOf d1).size := by rw [bsOf_size]; omega
      have q2 : ¬ 9223372036854775807 < (bsOf cur).size + (5 + (bsOf d1).size) := by rw [bsOf_size, bsOf_size]; omega
      clear hcl hl1 HLC HCI hlt
      go_upto_region 9 with (first | (go_at_call 14; (with_reducible refine (HCO.out _).mono ?_); rintro e w9 ⟨rfl, rfl⟩) | (go_at_call 18; (with_reducible refine (HDC.out _).mono ?_); rintro e w2 ⟨rfl, hb2⟩; have HB2 := hid hb2; clear hb2))
      have HBA := hid (bthen HB.out HB2.out)
      have HCH := hid (chain1_any c c1 c2 a k cap zs w2 (HE.out.below HBA.out) (HR.out.below HBA.out) hn20)
      have hcmp : ((bsOf whole).toList == (bsOf cur ++ (({ data := #[99, 111, 100, 101, 32] } : ByteArray) ++ bsOf d1)).toList) = true := by rw [HCB.out]; exact beq_self_eq_true _
      have hcne : ((bsOf whole).toList != (bsOf cur ++ (({ data := #[99, 111, 100, 101, 32] } : ByteArray) ++ bsOf d1)).toList) = false := by rw [HCB.out]; exact bne_self_eq_false _
      clear q1 q2 HDC
      go_upto_region 10 with (first | (go_at_call 14; (with_reducible refine (HCO.out _).mono ?_); rintro e w9 ⟨rfl, rfl⟩) | (go_at_call 13; (with_reducible refine HCH.out.mono ?_); rintro e w3 ⟨T, b, ks, rfl, hk0, hkl, her, hb⟩; have HK0 := hid hk0; have HKL := hid hkl; have HR3 := hid her; have HB3 := hid (bthen HBA.out hb); have q5 := run_neq_nil T (.pointer (some b)); clear hk0 hkl her hb))
      clear HCH HBA HB HB2
      have HB4 := hid (bnew HB3.out (.cells #[.pointer none] 51))
      rcases Nat.eq_zero_or_pos k with hz | hp
      · subst hz
        go_wp2_with (first | (go_at_call 12; (with_reducible refine (told1 _ (HE.out.below HB4.out)).mono ?_); rintro e w7 ⟨rfl, hb⟩; have HB7 := hid (bthen HB4.out hb); have HR7 := hid ((HR3.out.below (bnew (bid w3) _)).below hb); clear hb) | (go_at_call 21; go_must (refine (HTX.out _ HB7.out HR7.out HK0.out HKL.out).mono ?_; rintro e w8 ⟨rfl, hb⟩; have HB8 := hid (bthen HB7.out hb); clear hb)))
        go_ret
        exact ⟨rfl, HB8.out⟩
      · obtain ⟨q, rfl, rfl, hq⟩ := HR3.out.head HK0.out HKL.out hp
        have HQ := hid hq
        have ep : (0 : Int) < (k : Int) := by omega
        clear hq
        go_wp2_with (first | (go_at_call 19; go_must (refine (as_hit' (e := ⟨q, 0, none⟩) (t := w3.heap.size) (old := .pointer none) (HE.out.below HB4.out).et (by simp [go_sem]) (by simp [go_sem])).mono ?_; rintro e w5 ⟨rfl, hc5, hw5⟩; have HB5 := hid ((bnew (bid w3) (.cells #[.pointer none] 51)).trans (hw5.below (bnew (bid w3) _).size (fun j hj e => by have e' : j = w3.heap.size := e; omega))); have HBW := hid (bthen HB3.out HB5.out); have HR5 := hid (HR3.out.below HB5.out); clear hw5)) | (go_at_call 20; go_must (refine (HER.out _ HBW.out HR5.out HQ.out HKL.out hp).mono ?_; rintro e w6 ⟨rfl, hb⟩; have HB6 := hid (bthen HBW.out hb); have HR6 := hid (HR5.out.below hb); clear hb)) | (go_at_call 12; (with_reducible refine (told1 _ (HE.out.below HB6.out)).mono ?_); rintro e w7 ⟨rfl, hb⟩; have HB7 := hid (bthen HB6.out hb); have HR7 := hid (HR6.out.below hb); clear hb) | (go_at_call 21; go_must (refine (HTX.out _ HB7.out HR7.out HK0.out HKL.out).mono ?_; rintro e w8 ⟨rfl, hb⟩; have HB8 := hid (bthen HB7.out hb); clear hb)))
        go_ret
        exact ⟨rfl, HB8.out⟩

end Go.Proofs.YtbobjhadckeieaaDoor
