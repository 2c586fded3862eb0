/-
  BlameChain, walked.
-/
import Derived.Test.YtbobjhadckeieaaDoorBChain
namespace Go.Proofs.YtbobjhadckeieaaDoor
open Go.RowKit
set_option linter.unusedVariables false

theorem run_neq_bool (x y : Bool) (W : World) : True := trivial
theorem Err.first {w : World} {sb : Nat → Addr} {c : Nat} {ks : List (Nat × Addr)} {tf pf : Nat → Int} (h : Err w sb c ks tf pf) (hk : 2 ≤ ks.length) : ∃ b x, ks[0]? = some (51, ⟨b, 0, none⟩) ∧ AtAt w b (tf 0) (pf 0) x := h.places 0 (by omega)

theorem where1 {w : World} {sb : Nat → Addr} {c : Nat} {ks : List (Nat × Addr)} {tf pf : Nat → Int} {T : Nat} {b : Addr} (hE : Ers sb w) (h : Err w sb c ks tf pf) (hk : ks.getD 0 k0 = (T, b)) (hl : ks.length = 1) :
    Calls Tryd.prog 15 #[errV T b] w fun e w' => e = .returned (.tuple #[.int .i64 0, .int .i64 0, .bool false]) ∧ Below w.heap.size w w' := by
  have := Where_none h.chain hE.et hl
  rw [hk] at this
  exact this
theorem where2 {w : World} {sb : Nat → Addr} {c : Nat} {ks : List (Nat × Addr)} {tf pf : Nat → Int} {T : Nat} {b : Addr} (hE : Ers sb w) (h : Err w sb c ks tf pf) (hk : ks.getD 0 k0 = (T, b)) (hl : 2 ≤ ks.length) :
    Calls Tryd.prog 15 #[errV T b] w fun e w' => e = .returned (.tuple #[.int .i64 (tf 0), .int .i64 (pf 0), .bool true]) ∧ Below w.heap.size w w' := by
  obtain ⟨b', x, h1, h2⟩ := h.first hl
  have := Where_at h.chain hE.et (by omega) h1 h2
  rw [hk] at this
  exact this
theorem trail1 {w : World} {sb : Nat → Addr} {c n : Nat} {ks : List (Nat × Addr)} {tf pf : Nat → Int} {T : Nat} {b : Addr} (hE : Ers sb w) (h : Err w sb c ks tf pf) (hk : ks.getD 0 k0 = (T, b)) (hl : ks.length = n + 1) :
    Calls Tryd.prog 16 #[errV T b] w fun e w' => ∃ lv, e = .returned lv ∧ w'.ownsRow w.heap.size 3 1 lv n (((List.range n).map pf).map (Value.int .i64)) ∧ Below w.heap.size w w' := by
  have := Trail_chain h.chain hE.et pf (fun j hj => by obtain ⟨b', x, h1, h2⟩ := h.places j hj; exact ⟨b', _, x, h1, h2⟩)
  rw [hk, hl, Nat.add_sub_cancel] at this
  exact this
theorem code1 {w : World} {sb : Nat → Addr} {c : Nat} (h1 : 1 ≤ c) (h2 : c ≤ 10) {ks : List (Nat × Addr)} {tf pf : Nat → Int} {T : Nat} {b : Addr} (hE : Ers sb w) (h : Err w sb c ks tf pf) (hk : ks.getD 0 k0 = (T, b)) :
    Calls Tryd.prog 17 #[errV T b] w fun e w' => e = .returned (.int .i64 ((c : Nat) : Int)) ∧ Below w.heap.size w w' := by
  have := Code_chain h.chain hE.sents h.ends h1 h2
  rw [hk] at this
  exact this.mono fun e w' hh => ⟨hh.1.trans rfl, hh.2⟩

set_option maxRecDepth 100000 in
set_option maxHeartbeats 8000000 in
theorem bchain_all {sb : Nat → Addr} (x : Int) (a : Option Addr) (n cap : Nat) (zs : List (Int × Int)) (w : World) (hE : Ers sb w) (hr : PairRow w a n zs) (hn : n ≤ maxLen) :
    Calls Tryd.prog 4 #[.int .i64 x, .slice a n cap] w fun e w' => e = .returned (.bool true) ∧ Below w.heap.size w w' := by
  unfold maxLen at hn
  have HE := hid hE
  have HR := hid hr
  clear hE hr
  obtain ⟨c1, c2⟩ := codeN_in x
  have HCO := hid (fun W => code_any x W)
  generalize codeN x = c at c1 c2 HCO
  have hn' : (n : Int) ≤ 9223372036854775807 := by omega
  by_cases h20 : 20 < n
  · have e20 : (20 : Int) < (n : Int) := by omega
    go_enter Tryd.func4, Tryd.ntmps4
    go_wp2_with (go_at_call 12; (with_reducible refine (told1 _ HE.out).mono ?_); rintro e w1 ⟨rfl, hb⟩; have HB1 := hid hb; clear hb)
    go_ret
    exact ⟨rfl, HB1.out⟩
  have e20 : ¬ (20 : Int) < (n : Int) := by omega
  have HCH := hid (chain1_any c c1 c2 a n cap zs w HE.out HR.out (by omega))
  have HCD := hid (fun (W : World) (hW : Below w.heap.size w W) {ks : List (Nat × Addr)} {tf pf : Nat → Int} {T : Nat} {b : Addr} (h : Err W sb c ks tf pf) (hk : ks.getD 0 k0 = (T, b)) => code1 c1 c2 (HE.out.below hW) h hk)
  clear hn
  rcases Nat.eq_zero_or_pos n with hz | hp
  · subst hz
    go_enter Tryd.func4, Tryd.ntmps4
    go_upto_region 7 with (first | (go_at_call 14; (with_reducible refine (HCO.out _).mono ?_); rintro e w9 ⟨rfl, rfl⟩) | (go_at_call 13; (with_reducible refine HCH.out.mono ?_); rintro e w1 ⟨T, b, ks, rfl, hk0, hkl, her, hb⟩; have HK0 := hid hk0; have HKL := hid hkl; have HER := hid her; have HB1 := hid hb; have q5 := run_eql_nil T (.pointer (some b)); clear hk0 hkl her hb) | (go_at_call 15; go_must (refine (where1 (HE.out.below HB1.out) HER.out HK0.out (by have := HKL.out; omega)).mono ?_; rintro e w3 ⟨rfl, hb⟩; have HBW := hid hb; clear hb)))
    have HB3 := hid (bthen HB1.out HBW.out)
    have HER3 := hid (HER.out.below HBW.out)
    go_upto_region 10 with (go_at_call 16; go_must (refine (trail1 (HE.out.below HB3.out) HER3.out HK0.out HKL.out).mono ?_; rintro e w4 ⟨lv, rfl, hrow, hb4⟩; obtain ⟨ra, rc, rfl⟩ : ∃ ra rc, lv = .slice ra 0 rc := (by (rcases row_form hrow with ⟨h, h'⟩ | ⟨g, rc, h⟩; exact ⟨none, 0, by rw [h, h']⟩; exact ⟨_, rc, h⟩)); have HROW := hid hrow; have HB4 := hid (bthen HB3.out hb4); have HER4 := hid (HER3.out.below hb4); have HSZ := hid (show w3.heap.size ≤ w4.heap.size from hb4.size); clear hrow hb4))
    clear HCH
    go_wp2_with fail
    go_loopw [10] (fun i wr => ∃ k : Nat, k ≤ 0 ∧ i = .int .i64 k ∧ Below w4.heap.size w4 wr) (fun i _ => 0 - (intOf i).toNat)
    case atStart => exact ⟨0, Nat.zero_le _, rfl, bid w4⟩
    case round =>
      obtain ⟨k, hk, rfl, hb⟩ := hrel
      have HB5 := hid hb
      clear hb
      by_cases hlt : k < 0
      · exact absurd hlt (by omega)
      · obtain rfl : k = 0 := by omega
        have HB6 := hid (bthen HB4.out HB5.out)
        have HER6 := hid (HER4.out.below HB5.out)
        go_wp2_with (first | (go_at_call 12; (with_reducible refine (told1 _ (HE.out.below HB6.out)).mono ?_); rintro e w7 ⟨rfl, hb⟩; have HB7 := hid (bthen HB6.out hb); have HER7 := hid (HER6.out.below hb); clear hb) | (go_at_call 17; go_must (refine (HCD.out _ HB7.out HER7.out HK0.out).mono ?_; rintro e w8 ⟨rfl, hb⟩; have HB8 := hid (bthen HB7.out hb); clear hb)) | (go_at_call 14; (with_reducible refine (HCO.out _).mono ?_); rintro e w9 ⟨rfl, rfl⟩))
        go_ret
        exact ⟨rfl, HB8.out⟩
  · have ep : (0 : Int) < (n : Int) := by omega
    obtain ⟨g0, off0, rfl, hgl0, hcell0⟩ := HR.out.at hp
    have hz00 : 0 < zs.length := by rw [HR.out.cnt]; exact hp
    have hz01 := hcell0 0 zs[0] (List.getElem?_eq_getElem hz00)
    have HT0 : Hid (tfF zs 0 0 = zs[0].1 ∧ pfF zs 0 0 = zs[0].2) := hid (by
      constructor
      · show (zs.getD 0 (0, 0)).1 = _
        simp [List.getD, hz00]
      · show (zs.getD 0 (0, 0)).2 = _
        simp [List.getD, hz00])
    generalize zs[0] = z at hz01 HT0
    obtain ⟨z1, z2⟩ := z
    dsimp only at hz01 HT0
    rw [Nat.zero_mul, Nat.add_zero] at hz01
    have HK7 := hid (fun (W : World) (hW : Below w.heap.size w W) => (show W.cell? ⟨g0, off0, none⟩ = some (.int .i64 z1) ∧ W.cell? ⟨g0, off0 + 1, none⟩ = some (.int .i64 z2) from ⟨(hW.cell (p := ⟨g0, off0, none⟩) hgl0).trans hz01.1, (hW.cell (p := ⟨g0, off0 + 1, none⟩) hgl0).trans hz01.2⟩))
    clear hcell0 hz01 hz00
    go_enter Tryd.func4, Tryd.ntmps4
    go_upto_region 7 with (first | (go_at_call 14; (with_reducible refine (HCO.out _).mono ?_); rintro e w9 ⟨rfl, rfl⟩) | (go_at_call 13; (with_reducible refine HCH.out.mono ?_); rintro e w1 ⟨T, b, ks, rfl, hk0, hkl, her, hb⟩; have HK0 := hid hk0; have HKL := hid hkl; have HER := hid her; have HB1 := hid hb; have q5 := run_eql_nil T (.pointer (some b)); clear hk0 hkl her hb) | (go_at_call 15; go_must (refine (where2 (HE.out.below HB1.out) HER.out HK0.out (by have := HKL.out; omega)).mono ?_; rintro e w3 ⟨rfl, hb⟩; have HBW := hid hb; clear hb)))
    obtain ⟨s1, s2⟩ := HK7.out _ (bthen HB1.out HBW.out)
    rw [HT0.out.1, HT0.out.2]
    have HB3 := hid (bthen HB1.out HBW.out)
    have HER3 := hid (HER.out.below HBW.out)
    go_upto_region 10 with (go_at_call 16; go_must (refine (trail1 (HE.out.below HB3.out) HER3.out HK0.out HKL.out).mono ?_; rintro e w4 ⟨lv, rfl, hrow, hb4⟩; obtain ⟨ra, rc, rfl⟩ : ∃ ra rc, lv = .slice ra n rc := (by (rcases row_form hrow with ⟨h, h'⟩ | ⟨g, rc, h⟩; exact ⟨none, 0, by rw [h, h']⟩; exact ⟨_, rc, h⟩)); have HROW := hid hrow; have HB4 := hid (bthen HB3.out hb4); have HER4 := hid (HER3.out.below hb4); have HSZ := hid (show w3.heap.size ≤ w4.heap.size from hb4.size); clear hrow hb4))
    clear HCH s1 s2 HK7
    go_wp2_with fail
    go_loopw [10] (fun i wr => ∃ k : Nat, k ≤ n ∧ i = .int .i64 k ∧ Below w4.heap.size w4 wr) (fun i _ => n - (intOf i).toNat)
    case atStart => exact ⟨0, Nat.zero_le _, rfl, bid w4⟩
    case round =>
      obtain ⟨k, hk, rfl, hb⟩ := hrel
      have HB5 := hid hb
      clear hb
      by_cases hlt : k < n
      · obtain ⟨g, off, hge, hgl, hcell⟩ := HR.out.at (by omega)
        obtain ⟨rfl, rfl⟩ : g = g0 ∧ off = off0 := by simp only [Option.some.injEq, Addr.mk.injEq] at hge; exact ⟨hge.1.symm, hge.2.1.symm⟩
        have hkz : k < zs.length := by rw [HR.out.cnt]; exact hlt
        have hz0 := (hcell k zs[k] (List.getElem?_eq_getElem hkz)).2
        have hpf : pfF zs 0 k = zs[k].2 := by
          show (zs.getD (0 + k) (0, 0)).2 = _
          rw [Nat.zero_add]
          simp [List.getD, hkz]
        generalize zs[k].2 = z2 at hz0 hpf
        have d2 := ((bthen HB4.out HB5.out).cell (p := ⟨g, off + k * 2 + 1, none⟩) hgl).trans hz0
        obtain ⟨rg, hrg⟩ : ∃ rg, ra = some ⟨rg, 0, none⟩ := by
          rcases row_form HROW.out with ⟨_, h⟩ | ⟨g, cap, h⟩
          · omega
          · exact ⟨g, (Value.slice.inj h).1⟩
        subst hrg
        have hgl2 : rg < w4.heap.size := by obtain ⟨_, cs, tt, h⟩ := ownsRow_block HROW.out rfl; exact lt_of_block h
        have d1 : wr.cell? ⟨rg, k, none⟩ = some (.int .i64 z2) := by
          refine (HB5.out.cell (p := ⟨rg, k, none⟩) hgl2).trans ((HROW.out.cellAt k (by simpa using hlt)).trans ?_)
          simp [hlt, hpf]
        have i0 : (0 : Int) ≤ (k : Int) := by omega
        have i1 : (k : Int) < ((n : Nat) : Int) := by omega
        clear hcell hz0 hkz hpf
        go_upto_region 15 with fail
        go_quiet (fail)
        go_wp2
        go_roundw
        case rel => exact ⟨k + 1, by omega, by go_num, bdrewN' HB5.out⟩
        case measure => simp [intOf]; omega
      · obtain rfl : k = n := by omega
        have HB6 := hid (bthen HB4.out HB5.out)
        have HER6 := hid (HER4.out.below HB5.out)
        go_wp2_with (first | (go_at_call 12; (with_reducible refine (told1 _ (HE.out.below HB6.out)).mono ?_); rintro e w7 ⟨rfl, hb⟩; have HB7 := hid (bthen HB6.out hb); have HER7 := hid (HER6.out.below hb); clear hb) | (go_at_call 17; go_must (refine (HCD.out _ HB7.out HER7.out HK0.out).mono ?_; rintro e w8 ⟨rfl, hb⟩; have HB8 := hid (bthen HB7.out hb); clear hb)) | (go_at_call 14; (with_reducible refine (HCO.out _).mono ?_); rintro e w9 ⟨rfl, rfl⟩))
        go_ret
        exact ⟨rfl, HB8.out⟩

end Go.Proofs.YtbobjhadckeieaaDoor
