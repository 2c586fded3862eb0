/-
  The document's Rows.
-/
import Derived.Test.YtcnpflnfmndibaaStRw
import Derived.Deep.DeepCutAuto
import Derived.BigQuiet
namespace Go.Proofs.Ytcnpflnfmndibaa
open Go.RowKit
attribute [local go_sem] Later.cell Later.frozen

/-- Where the document's Rows stands. -/
structure RdAt (w : World) (m : PM) (v : Value) (l : List Int) (W : World) : Prop where
  map : MapAt 39 W w.heap.size m
  list : NL W (w.heap.size + 1) v l
  young : w.heap.size + 1 ≤ W.heap.size
  below : Below w.heap.size w W
theorem RdAt.later {w : World} {m : PM} {v : Value} {l : List Int} {W W' : World} (h : RdAt w m v l W) (hb : Below W.heap.size W W') : RdAt w m v l W' :=
  ⟨h.map.below hb, h.list.below hb, Nat.le_trans h.young hb.size, bthen h.below hb⟩

set_option maxHeartbeats 4000000 in
theorem rRows_any (m : PM) (a0 : Option Addr) (len0 cap0 : Nat) (zs : List Int) (w : World) (hok : m.Ok) (hr : IntRow w a0 len0 zs) (hl0 : len0 ≤ 1000) :
    Calls Try.prog 20 #[m.v, .slice a0 len0 cap0] w (RowsRet w (rowsL m zs m.s.toNat)) := by
  have HR := hid hr
  have HLZ := hid hr.1
  clear hr
  have HH := hid (fun (z : Int) W => refHash_any m z W)
  have HMY := hid (fun W => by have h := refMay_any m W; rwa [pmayB_yes hok] at h : ∀ W, Calls Try.prog 25 #[m.v] W fun e w' => e = .returned (.bool true) ∧ Below W.heap.size W w')
  have s2 := hok.s2
  have s1 := hok.s1
  clear hok
  obtain ⟨s, l, t, c, d⟩ := m
  simp only at s1 s2
  obtain ⟨S, rfl⟩ : ∃ S : Nat, s = S := ⟨s.toNat, by omega⟩
  rw [show (PM.mk (S : Int) l t c d).s.toNat = S from Int.toNat_natCast S]
  show Calls _ _ #[.agg #[.int .i64 (S : Int), .int .i64 l, .int .i64 t, .int .i64 c, .int .i64 d], _] _ _
  have HW : Hid (RdAt w ⟨S, l, t, c, d⟩ (.slice none 0 0) [] (w.alloc (.cells #[.int .i64 (S : Int), .int .i64 l, .int .i64 t, .int .i64 c, .int .i64 d] 39))) :=
    hid ⟨MapAt.new 39 w ⟨S, l, t, c, d⟩, NL.nil _ _, by rw [size_alloc1]; exact Nat.le_refl _, bnew (bid w) _⟩
  go_enter Try.func20, Try.ntmps20
  go_upto_region 3 with fail
  refine wp_rename _ HW.out ?_
  clear HW
  intro W1 hk1
  have HK1 := hid hk1
  clear hk1
  go_loopw [5, 6] (fun v i W => ∃ j : Nat, j ≤ S ∧ i = .int .i64 j ∧ RdAt w ⟨S, l, t, c, d⟩ v (rowsL ⟨S, l, t, c, d⟩ zs j) W) (fun _ i _ => S - (intOf i).toNat)
  case atStart => exact ⟨0, by omega, rfl, HK1.out⟩
  case round =>
    clear HK1
    obtain ⟨j, hj, rfl, hR⟩ := hrel
    have HK := hid hR
    clear hR
    obtain ⟨m0, m1, m2, m3, m4, m5⟩ := HK.out.map.facts
    by_cases hlt : j < S
    · have j1 : (j : Int) < (S : Int) := by omega
      go_upto_region 5 with (go_at_call 25; (with_reducible refine (HMY.out _).mono ?_); rintro e w4 ⟨rfl, hb4⟩; have HB4 := hid hb4; clear hb4)
      refine wp_rename _ (HK.out.later HB4.out) ?_
      clear HB4 HK m0 m1 m2 m3 m4 m5
      intro W5 hk5
      have HK := hid hk5
      clear hk5
      go_wp2_with fail
      go_loopw [5, 7] (fun v i W => ∃ q : Nat, q ≤ len0 ∧ i = .int .i64 q ∧ v = u5 ∧ amF ⟨S, l, t, c, d⟩ zs q j = false ∧ RdAt w ⟨S, l, t, c, d⟩ u5 (rowsL ⟨S, l, t, c, d⟩ zs j) W) (fun _ i _ => len0 - (intOf i).toNat)
      case atStart => exact ⟨0, by omega, rfl, rfl, rfl, HK.out⟩
      case round =>
        clear HK
        obtain ⟨q, hq, rfl, rfl, hf, hR⟩ := hrel
        have HK := hid hR
        have HF := hid hf
        clear hR hf
        by_cases hlq : q < len0
        · obtain ⟨m0, m1, m2, m3, m4, m5⟩ := HK.out.map.facts
          obtain ⟨b, off, rfl, hb, hcs⟩ := (HR.out.below HK.out.below).at (by omega)
          have cq := hcs q hlq
          clear hcs
          have HS := hid (amF_succ ⟨S, l, t, c, d⟩ zs (i := q) (by rw [HLZ.out]; exact hlq) j)
          have HC := hid (fun W => HH.out (zs.getD q 0) W)
          have HM := hid (show zs.getD q 0 ∈ zs from by
            have hq2 : q < zs.length := by rw [HLZ.out]; exact hlq
            simp [List.getD_eq_getElem?_getD, hq2])
          have HY := hid (fun h : PM.hash ⟨S, l, t, c, d⟩ (zs.getD q 0) = (j : Int) => rowsL_yes (m := ⟨S, l, t, c, d⟩) (zs := zs) (n := j) (List.any_eq_true.2 ⟨_, HM.out, by rw [h]; simp⟩))
          have HL := hid (rowsL_len ⟨S, l, t, c, d⟩ zs j)
          generalize PM.hash ⟨S, l, t, c, d⟩ (zs.getD q 0) = h at *
          generalize zs.getD q 0 = z at *
          have n1 : (0 : Int) ≤ (q : Int) := by omega
          have n2 : (q : Int) < (len0 : Int) := by omega
          go_upto_region 8 with fail
          refine wp_region_later (by kernel_rfl) (by kernel_rfl) ?_
          repeat (go_big_quiet_step ((go_at_call 26; with_reducible exact later_call (HC.out _))))
          refine wpQuiet_nil ?_
          rintro _ ⟨x, rfl⟩
          have HKX := hid (HK.out.later x.below)
          clear HK m0 m1 m2 m3 m4 m5 cq HC hb
          generalize x.v = W6 at HKX ⊢
          clear x
          have HK := HKX
          clear HKX
          by_cases hh : h = (j : Int)
          · have HE := hid (HY.out hh)
            have hh2 : (h == (j : Int)) = true := by simpa using hh
            have HN := hid HK.out.list
            have HBL := hid HK.out.young
            clear hh HY HS
            go_wp2_with (at_builtin; refine wpList_append_nl1 rfl (.tmp 32) (.tmp 34) rfl rfl HN.out rfl rfl (Nat.le_trans (Nat.succ_le_succ HL.out) (Nat.le_trans hlt (Nat.le_trans (Int.ofNat_le.1 s2) (by decide)))) HBL.out ?_; intro v' w' hn' hb'; have HN2 := hid hn'; have HB2 := hid hb'; clear hn' hb')
            go_roundw
            case rel => exact ⟨j + 1, by omega, by go_num, by rw [HE.out]; exact ⟨by have h := HK.out.map; unfold MapAt at h ⊢; exact (HB2.out.block _ (by omega)).trans h, HN2.out, Nat.le_trans HBL.out HB2.out.size, HK.out.below.trans (HB2.out.mono (by omega))⟩⟩
            case measure => simp [intOf]; omega
          · have hh2 : (h == (j : Int)) = false := by simpa using hh
            have HF2 := hid (show amF ⟨S, l, t, c, d⟩ zs (q + 1) j = false from by rw [HS.out, HF.out, hh2]; rfl)
            clear hh HY HS
            go_wp2_with fail
            go_roundw
            case rel => exact ⟨q + 1, by omega, by go_num, rfl, HF2.out, HK.out⟩
            case measure => simp [intOf]; omega
        · obtain rfl : q = len0 := by omega
          have HE := hid (rowsL_no (m := ⟨S, l, t, c, d⟩) (zs := zs) (n := j) (by have h := amF_all ⟨S, l, t, c, d⟩ zs j; rw [HLZ.out, HF.out] at h; exact h.symm))
          go_wp2_with fail
          go_roundw
          case rel => exact ⟨j + 1, by omega, by go_num, by rw [HE.out]; exact HK.out⟩
          case measure => simp [intOf]; omega
    · obtain rfl : j = S := by omega
      go_wp2_with fail
      go_ret
      exact ⟨_, rfl, HK.out.list.mono (by omega), HK.out.below⟩

end Go.Proofs.Ytcnpflnfmndibaa
