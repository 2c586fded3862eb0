/-
  StripeRows, its walk.
-/
import Derived.Test.YtcnpflnfmndibaaStRd
import Derived.Test.YtcnpflnfmndibaaNr
import Derived.Test.YtcnpflnfmndibaaBoth
import Derived.Deep.DeepCutAuto
import Derived.BigQuiet
namespace Go.Proofs.Ytcnpflnfmndibaa
open Go.RowKit
attribute [local go_sem] Later.cell Later.frozen

theorem rowsL_up (m : PM) (zs : List Int) (n : Nat) : (rowsL m zs n).Pairwise (· < ·) := by
  unfold rowsL
  rw [List.pairwise_map]
  exact (List.Pairwise.filter _ List.pairwise_lt_range).imp (by intro a b h; omega)
theorem rowsL_rise (m : PM) (zs : List Int) (n q : Nat) (h : q + 1 < (rowsL m zs n).length) : (rowsL m zs n).getD q 0 < (rowsL m zs n).getD (q + 1) 0 := by
  have := List.pairwise_iff_getElem.1 (rowsL_up m zs n) q (q + 1) (by omega) h (by omega)
  simpa [List.getD_eq_getElem?_getD, show q < (rowsL m zs n).length by omega, h] using this
theorem rowsL_mem (m : PM) (zs : List Int) {z : Int} (hz : z ∈ zs) (h : 0 ≤ m.hash z) : m.hash z ∈ rowsL m zs 16 := by
  have := hash_lt m z
  refine List.mem_map.2 ⟨(m.hash z).toNat, List.mem_filter.2 ⟨List.mem_range.2 (by omega), List.any_eq_true.2 ⟨z, hz, ?_⟩⟩, by omega⟩
  simp
  omega
/-- Whether one of the first j is h. -/
def inF (l : List Int) (j : Nat) (h : Int) : Bool := (l.take j).any (· == h)
theorem inF_zero (l : List Int) (h : Int) : inF l 0 h = false := rfl
theorem inF_succ (l : List Int) {j : Nat} (hj : j < l.length) (h : Int) : inF l (j + 1) h = (inF l j h || l.getD j 0 == h) := by
  unfold inF
  rw [List.take_succ_eq_append_getElem hj, List.any_append]
  simp [hj]
theorem inF_all (l : List Int) (h : Int) (hm : h ∈ l) : inF l l.length h = true := by
  unfold inF
  rw [List.take_length]
  exact List.any_eq_true.2 ⟨h, hm, by simp⟩

/-- Where the law stands ahead of Rows. -/
structure SrAt (w : World) (m : PM) (g : Nat) (v : Value) (ys : List Int) (W : World) : Prop where
  map : MapAt 34 W g m
  list : NL W (g + 1) v ys
  young : g + 1 ≤ W.heap.size
  mg : w.heap.size ≤ g
  below : Below w.heap.size w W
theorem SrAt.later {w : World} {m : PM} {g : Nat} {v : Value} {l : List Int} {W W' : World} (h : SrAt w m g v l W) (hb : Below W.heap.size W W') : SrAt w m g v l W' :=
  ⟨h.map.below hb, h.list.below hb, Nat.le_trans h.young hb.size, h.mg, bthen h.below hb⟩
theorem SrAt.store {w : World} {m : PM} {g gb n c : Nat} {ys : List Int} {W : World} (h : SrAt w m g (.slice (some ⟨gb, 0, none⟩) n c) ys W) (i : Nat) (y : Int) :
    SrAt w m g (.slice (some ⟨gb, 0, none⟩) n c) (ys.set i y) (W.setCell ⟨gb, i, none⟩ (.int .i64 y)) := by
  have ho := h.list.old (g := gb) rfl
  have hm := h.mg
  refine ⟨?_, h.list.store i y, by simpa using h.young, hm, h.below.setCell (by show w.heap.size ≤ gb; omega) _⟩
  have h1 := h.map
  unfold MapAt at h1 ⊢
  rw [Below.heap_setCell _ _ _ _ (by show g ≠ gb; omega)]
  exact h1
/-- Behind it: both lists. -/
structure SsAt (w : World) (m : PM) (g : Nat) (v v1 v2 : Value) (ys l : List Int) (W : World) : Prop where
  at_ : SrAt w m g v ys W
  one : NL W g v1 l
  two : NL W g v2 l
theorem SsAt.later {w : World} {m : PM} {g : Nat} {v v1 v2 : Value} {ys l : List Int} {W W' : World} (h : SsAt w m g v v1 v2 ys l W) (hb : Below W.heap.size W W') : SsAt w m g v v1 v2 ys l W' :=
  ⟨h.at_.later hb, h.one.below hb, h.two.below hb⟩

set_option maxRecDepth 100000 in
set_option maxHeartbeats 8000000 in
theorem srows_any (k0 k1 k2 k3 k4 : Int) (a1 : Option Addr) (len1 cap1 : Nat) (zs : List Int) (raw : Bool) (w : World) (hr : IntRow w a1 len1 zs) (hl : len1 ≤ maxLen) :
    Calls Try.prog 6 #[.agg #[.int .i64 k0, .int .i64 k1, .int .i64 k2, .int .i64 k3, .int .i64 k4], .slice a1 len1 cap1, .bool raw] w fun e w' => e = .returned (.bool true) ∧ Below w.heap.size w w' := by
  unfold maxLen at hl
  by_cases hlen : 40 < len1
  · clear hr
    go_enter Try.func6, Try.ntmps6
    go_wp2_with (go_at_call 7; (with_reducible refine (told12_any _).mono ?_); rintro e w1 ⟨rfl, rfl⟩)
    go_ret
    exact ⟨rfl, bnew (bid w) _⟩
  have HR := hid hr
  have HLZ := hid hr.1
  clear hr
  have hok := near_ok k0 k1 k2 k3 k4
  have HN := hid (fun W => Near_any k0 k1 k2 k3 k4 W)
  generalize near k0 k1 k2 k3 k4 = m at hok HN
  have HOK := hid hok
  have hz := PM.size_bounds hok
  obtain ⟨z1, z2⟩ := hz
  have HSZ := hid (fun W => Size_any m W)
  generalize hms : m.size = n at z1 z2 HSZ
  have HMS := hid hms
  clear hok hms
  have HSR := hid (fun (ys : List Int) a c W hr hl => Rows_any m a ys.length c ys W hr hl)
  have HRR := hid (fun (ys : List Int) a c W hr hl => rRows_any m a ys.length c ys W HOK.out hr hl)
  have HRF := hid (fun W => pRef_any m W)
  have HHS := hid (fun z W => Hash_any m z W)
  have HEQ := hid (fun ys => rowsL_ok HOK.out ys)
  obtain ⟨s, l, t, c, d⟩ := m
  go_enter Try.func6, Try.ntmps6
  go_upto_region 4 with (go_at_call 17; (with_reducible refine (HN.out _).mono ?_); rintro e w1 ⟨rfl, hb1⟩; have HB1 := hid hb1; clear hb1)
  have HW := hid (show SrAt w ⟨s, l, t, c, d⟩ w1.heap.size (.slice none 0 0) [] (w1.alloc (.cells #[.int .i64 s, .int .i64 l, .int .i64 t, .int .i64 c, .int .i64 d] 34)) from
    ⟨MapAt.new 34 w1 ⟨s, l, t, c, d⟩, NL.nil _ _, by rw [size_alloc1]; exact Nat.le_refl _, Nat.le_trans (by simp) HB1.out.size, bnew (bthen (bnew (bid w) _) HB1.out) _⟩)
  refine wp_rename _ HW.out ?_
  clear HW HB1 HN
  generalize w1.heap.size = g
  intro W2 hk
  have HK := hid hk
  clear hk
  obtain ⟨m0, m1, m2, m3, m4, m5⟩ := HK.out.map.facts
  go_upto_region 7 with (go_at_call 18; (with_reducible refine (HSZ.out _).mono ?_); rintro e w3 ⟨rfl, hb3⟩; have HB3 := hid hb3; clear hb3)
  have HK2 := hid (HK.out.later HB3.out)
  clear HK HB3 m0 m1 m2 m3 m4 m5
  have HLIT := hid (NL.lit w3 (g + 1) [] #[] rfl 0 rfl HK2.out.young (by decide))
  have HK3 := hid (HK2.out.later (bnew (bid w3) (.cells #[] 3)))
  have h40 : len1 ≤ 40 := by omega
  go_upto_region 8 with (at_builtin; refine wpList_append_nlr rfl (.tmp 28) (.tmp 29) rfl rfl HLIT.out zs rfl (HR.out.below HK3.out.below) (by show 0 + len1 ≤ 1000; omega) HK3.out.young ?_; intro v' w4 hn4 hb4; have HN4 := hid hn4; have HB4 := hid hb4; clear hn4 hb4)
  have HK4 := hid (show SrAt w ⟨s, l, t, c, d⟩ g v' zs w4 from ⟨by have h := HK3.out.map; unfold MapAt at h ⊢; exact (HB4.out.block _ (by omega)).trans h, by have h := HN4.out; rw [List.nil_append] at h; exact h, Nat.le_trans HK3.out.young HB4.out.size, HK3.out.mg, HK3.out.below.trans (HB4.out.mono (by have := HK3.out.mg; omega))⟩)
  clear HK3 HLIT HN4 HB4 HK2 HR
  refine wp_rename _ HK4.out ?_
  clear HK4
  intro W5 hk5
  have HK := hid hk5
  clear hk5
  have hform := HK.out.list.row
  rw [HLZ.out] at hform
  obtain ⟨a9, c9, rfl, _, hg9⟩ := hform
  have HG9 := hid hg9
  clear hg9 HLZ
  have HL9 := hid (show zs.length = len1 from by
    have h := HK.out.list.form
    obtain ⟨a, c, e, _⟩ := h
    simp only [Value.slice.injEq] at e
    exact e.2.1.symm)
  go_upto_block 0 with fail
  go_cut [10] (fun v W => ∃ ys : List Int, ys.length = len1 ∧ SrAt w ⟨s, l, t, c, d⟩ g (.slice a9 len1 c9) ys W)
  case first =>
    go_wp2_with fail
    go_loopw [10] (fun i W => ∃ q : Nat, q ≤ len1 ∧ i = .int .i64 q ∧ ∃ ys : List Int, ys.length = len1 ∧ SrAt w ⟨s, l, t, c, d⟩ g (.slice a9 len1 c9) ys W) (fun i _ => len1 - (intOf i).toNat)
    case atStart => exact ⟨0, by omega, rfl, zs, HL9.out, HK.out⟩
    case round =>
      clear HK
      obtain ⟨q, hq, rfl, ys, hy, hR⟩ := hrel
      have HK := hid hR
      have HY := hid hy
      clear hR hy
      by_cases hlt : q < len1
      · cases raw
        · obtain ⟨ga, rfl, _, g2⟩ := HG9.out (by omega)
          have hq2 : q < ys.length := by rw [HY.out]; exact hlt
          obtain ⟨c0, f0⟩ := HK.out.list.at hq2
          have n1 : (0 : Int) ≤ (q : Int) := by omega
          have n2 : (q : Int) < (len1 : Int) := by omega
          clear hq2
          generalize ys.getD q 0 = y at c0
          go_wp2_with fail
          go_roundw
          case rel => exact ⟨q + 1, by omega, by go_num, _, by rw [List.length_set]; exact HY.out, HK.out.store q _⟩
          case measure => simp [intOf]; omega
        · go_wp2_with fail
          go_meet
          case rel => exact ⟨ys, HY.out, HK.out⟩
      · go_wp2_with fail
        go_meet
        case rel => exact ⟨ys, HY.out, HK.out⟩
  case rest =>
  clear HK HL9 HG9
  obtain ⟨ys, hy, hR⟩ := hcut
  have HK := hid hR
  have HY := hid hy
  clear hR hy
  have HRW := hid (show IntRow wc a9 len1 ys ∧ ∀ W, Below wc.heap.size wc W → IntRow W a9 len1 ys from by
    obtain ⟨a, c, e, h, _⟩ := HK.out.list.row
    rw [HY.out] at e h
    simp only [Value.slice.injEq] at e
    obtain ⟨rfl, _, _⟩ := e
    exact ⟨h, fun W hb => h.below hb⟩)
  have HSA := hid (fun W hb => HSR.out ys a9 c9 W (by rw [HY.out]; exact HRW.out.2 W hb) (by rw [HY.out]; omega))
  have HRA := hid (fun W hb => HRR.out ys a9 c9 W (by rw [HY.out]; exact HRW.out.2 W hb) (by rw [HY.out]; omega))
  rw [HY.out] at HSA HRA
  rw [← HEQ.out ys] at HRA
  have HUP := hid (rowsL_rise ⟨s, l, t, c, d⟩ ys 16)
  have HMEM := hid (fun (q : Nat) (hq : q < len1) => rowsL_mem ⟨s, l, t, c, d⟩ ys (z := ys.getD q 0) (by
    have hq2 : q < ys.length := by rw [HY.out]; exact hq
    simp [List.getD_eq_getElem?_getD, hq2]))
  have HLR := hid (rowsL_len ⟨s, l, t, c, d⟩ ys 16)
  generalize rowsL ⟨s, l, t, c, d⟩ ys 16 = rl at *
  obtain ⟨m0, m1, m2, m3, m4, m5⟩ := HK.out.map.facts
  clear HSR HRR HEQ
  go_upto_region 13 with (go_at_call 19; (with_reducible refine (HSA.out _ (Below.refl _ _)).mono ?_); rintro e w6 ⟨v1, rfl, hn6, hb6⟩; have HN6 := hid hn6; have HB6 := hid hb6; clear hn6 hb6)
  have HK6 := hid (HK.out.later HB6.out)
  clear m0 m1 m2 m3 m4 m5
  obtain ⟨m0, m1, m2, m3, m4, m5⟩ := HK6.out.map.facts
  have HG := hid (show g ≤ wc.heap.size ∧ g ≤ w6.heap.size from ⟨Nat.le_of_succ_le HK.out.young, Nat.le_of_succ_le HK6.out.young⟩)
  go_upto_region 14 with (first | (go_at_call 21; (with_reducible refine (HRF.out _).mono ?_); rintro e w7 ⟨rfl, hb7⟩; have HB7 := hid hb7; clear hb7) | (go_at_call 20; (with_reducible refine (HRA.out _ (bthen HB6.out HB7.out)).mono ?_); rintro e w8 ⟨v2, rfl, hn8, hb8⟩; have HN8 := hid hn8; have HB8 := hid hb8; clear hn8 hb8))
  have HS := hid (show SsAt w ⟨s, l, t, c, d⟩ g (.slice a9 len1 c9) v1 v2 ys rl w8 from
    ⟨(HK6.out.later HB7.out).later HB8.out, ((HN6.out.below HB7.out).below HB8.out).mono HG.out.1, HN8.out.mono (Nat.le_trans HG.out.2 HB7.out.size)⟩)
  clear HK6 HN6 HN8 HB6 HB7 HB8 m0 m1 m2 m3 m4 m5 HRA HSA HK HG HRW
  refine wp_rename _ HS.out ?_
  clear HS
  intro W9 hk9
  have HK := hid hk9
  clear hk9
  obtain ⟨a11, c11, rfl, _, h11⟩ := HK.out.one.row
  obtain ⟨a12, c12, rfl, _, h12⟩ := HK.out.two.row
  have H11 := hid h11
  have H12 := hid h12
  clear h11 h12
  generalize hL : rl.length = L at *
  have HLL := hid hL
  clear hL
  have h16 : L ≤ 16 := HLR.out
  go_wp2_with fail
  go_loopw [13] (fun i W => ∃ q : Nat, q ≤ L ∧ i = .int .i64 q ∧ SsAt w ⟨s, l, t, c, d⟩ g (.slice a9 len1 c9) (.slice a11 L c11) (.slice a12 L c12) ys rl W) (fun i _ => L - (intOf i).toNat)
  case atStart => exact ⟨0, by omega, rfl, HK.out⟩
  case round =>
    clear HK
    obtain ⟨q, hq, rfl, hR⟩ := hrel
    have HK := hid hR
    clear hR
    by_cases hlt : q < L
    · obtain ⟨g11, rfl, _, p11⟩ := H11.out (by omega)
      obtain ⟨g12, rfl, _, p12⟩ := H12.out (by omega)
      obtain ⟨x0, _⟩ := HK.out.one.at (k := q) (by rw [HLL.out]; exact hlt)
      obtain ⟨y0, _⟩ := HK.out.two.at (k := q) (by rw [HLL.out]; exact hlt)
      have n2 : (q : Int) < (L : Int) := by omega
      match q, hq, hlt, HK, x0, y0, n2 with
      | 0, hq, hlt, HK, x0, y0, n2 =>
        generalize rl.getD 0 0 = r0 at x0 y0
        have hb0 : (r0 != r0) = false := by simp
        go_upto_region 19 with fail
        go_quiet (fail)
        go_wp2_with fail
        go_roundw
        case rel => exact ⟨1, by omega, by go_num, HK.out.later ⟨rfl, rfl, rfl, Nat.le_refl _, fun _ _ => rfl⟩⟩
        case measure => simp [intOf]; omega
      | q + 1, hq, hlt, HK, x0, y0, n2 =>
        have hup := HUP.out q hlt
        obtain ⟨x1, _⟩ := HK.out.one.at (k := q) (by rw [HLL.out]; omega)
        generalize rl.getD (q + 1) 0 = r1 at *
        generalize rl.getD q 0 = r0 at *
        have hb0 : (r1 != r1) = false := by simp
        have hb1 : decide (r1 ≤ r0) = false := decide_eq_false (by omega)
        have hb2 : decide (0 < ((q + 1 : Nat) : Int)) = true := decide_eq_true (by omega)
        have hw1 : IntKind.i64.wrap (((q + 1 : Nat) : Int) - 1) = (q : Int) := by rw [IntKind.wrap_i64]; omega
        have n3 : (0 : Int) ≤ ((q + 1 : Nat) : Int) := by omega
        have n4 : (q : Int) < (L : Int) := by omega
        clear hup
        go_upto_region 19 with fail
        go_quiet (fail)
        go_wp2_with fail
        go_roundw
        case rel => exact ⟨q + 1 + 1, by omega, by go_num, HK.out.later ⟨rfl, rfl, rfl, Nat.le_refl _, fun _ _ => rfl⟩⟩
        case measure => simp [intOf]; omega
    · clear H12 HUP
      go_wp2_with fail
      go_loopw [14] (fun i W => ∃ p : Nat, p ≤ len1 ∧ i = .int .i64 p ∧ SsAt w ⟨s, l, t, c, d⟩ g (.slice a9 len1 c9) (.slice a11 L c11) (.slice a12 L c12) ys rl W) (fun i _ => len1 - (intOf i).toNat)
      case atStart => exact ⟨0, by omega, rfl, HK.out⟩
      case round =>
        clear HK
        obtain ⟨p, hp, rfl, hR⟩ := hrel
        have HK := hid hR
        clear hR
        by_cases hlp : p < len1
        · have hg9 : ∃ g9, a9 = some ⟨g9, 0, none⟩ := by
            obtain ⟨a, cx, e, _, h⟩ := HK.out.at_.list.row
            rw [HY.out] at e h
            simp only [Value.slice.injEq] at e
            obtain ⟨rfl, _, _⟩ := e
            obtain ⟨g9, h, _⟩ := h (by omega)
            exact ⟨g9, h⟩
          obtain ⟨g9, rfl⟩ := hg9
          have hb9 : g9 < wr.heap.size := (HK.out.at_.list.old (g := g9) rfl).2
          obtain ⟨x0, _⟩ := HK.out.at_.list.at (k := p) (by rw [HY.out]; exact hlp)
          obtain ⟨m0, m1, m2, m3, m4, m5⟩ := HK.out.at_.map.facts
          have HM := hid (HMEM.out p hlp)
          have HC := hid (fun W => HHS.out (ys.getD p 0) W)
          generalize PM.hash ⟨s, l, t, c, d⟩ (ys.getD p 0) = h at *
          generalize ys.getD p 0 = y at *
          have n1 : (0 : Int) ≤ (p : Int) := by omega
          have n2 : (p : Int) < (len1 : Int) := by omega
          go_upto_region 24 with fail
          refine wp_region_later (by kernel_rfl) (by kernel_rfl) ?_
          repeat (go_big_quiet_step ((go_at_call 22; with_reducible exact later_call (HC.out _))))
          refine wpQuiet_nil ?_
          rintro _ ⟨x, rfl⟩
          have HKX := hid (HK.out.later x.below)
          clear HK m0 m1 m2 m3 m4 m5 x0 HC hb9
          generalize x.v = W6 at HKX ⊢
          clear x
          have HK := HKX
          clear HKX
          go_wp2_with fail
          go_loopw [16, 17] (fun b i W => ∃ j : Nat, j ≤ L ∧ i = .int .i64 j ∧ b = .bool (inF rl j h) ∧ SsAt w ⟨s, l, t, c, d⟩ g (.slice (some ⟨g9, 0, none⟩) len1 c9) (.slice a11 L c11) (.slice a12 L c12) ys rl W) (fun _ i _ => L - (intOf i).toNat)
          case atStart => exact ⟨0, by omega, rfl, rfl, HK.out⟩
          case round =>
            clear HK
            obtain ⟨j, hj, rfl, rfl, hR⟩ := hrel
            have HK := hid hR
            clear hR
            by_cases hlj : j < L
            · obtain ⟨g11, rfl, _, _⟩ := H11.out (by omega)
              obtain ⟨x0, _⟩ := HK.out.one.at (k := j) (by rw [HLL.out]; exact hlj)
              have HI := hid (inF_succ rl (j := j) (by rw [HLL.out]; exact hlj) h)
              generalize rl.getD j 0 = r0 at *
              have n3 : (0 : Int) ≤ (j : Int) := by omega
              have n4 : (j : Int) < (L : Int) := by omega
              generalize inF rl j h = b at *
              cases b
              · go_wp2_with fail
                go_roundw
                case rel => exact ⟨j + 1, by omega, by go_num, by rw [HI.out]; rfl, HK.out⟩
                case measure => simp [intOf]; omega
              · go_wp2_with fail
                go_roundw
                case rel => exact ⟨j + 1, by omega, by go_num, by rw [HI.out]; rfl, HK.out⟩
                case measure => simp [intOf]; omega
            · obtain rfl : j = L := by omega
              have HA := hid (inF_all rl h)
              rw [HLL.out] at HA
              by_cases h0 : 0 ≤ h
              · have hb : inF rl j h = true := HA.out (HM.out h0)
                rw [hb]
                clear hb
                go_wp2_with fail
                go_roundw
                case rel => exact ⟨p + 1, by omega, by go_num, HK.out⟩
                case measure => simp [intOf]; omega
              · generalize inF rl j h = b
                go_wp2_with fail
                go_roundw
                case rel => exact ⟨p + 1, by omega, by go_num, HK.out⟩
                case measure => simp [intOf]; omega
        · have HB1 := hid (fun W hr hl => Rows_any ⟨0, 0, 0, 0, 0⟩ a9 ys.length c9 ys W hr hl)
          rw [rowsL_bad (m := ⟨0, 0, 0, 0, 0⟩) (fun h => absurd h.s1 (by decide)) ys 16, HY.out] at HB1
          have HRW := hid (show IntRow wr a9 len1 ys from by
            obtain ⟨a, c, e, h, _⟩ := HK.out.at_.list.row
            rw [HY.out] at e h
            simp only [Value.slice.injEq] at e
            obtain ⟨rfl, _, _⟩ := e
            exact h)
          clear HMEM HHS
          have HB2 := hid (HB1.out wr HRW.out (by omega))
          clear HB1
          go_wp2_with (first | (go_at_call 7; (with_reducible refine (told12_any _).mono ?_); rintro e w1 ⟨rfl, rfl⟩) | (go_at_call 19; (with_reducible refine HB2.out.mono ?_); rintro e w10 ⟨v10, rfl, hn10, hb10⟩; have HB10 := hid hb10; clear hb10; obtain ⟨a10, c10, rfl, _⟩ := hn10.form; clear hn10))
          go_ret
          exact ⟨rfl, bthen HK.out.at_.below HB10.out⟩

end Go.Proofs.Ytcnpflnfmndibaa
