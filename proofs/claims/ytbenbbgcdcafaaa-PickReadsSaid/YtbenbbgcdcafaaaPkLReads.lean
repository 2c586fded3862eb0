/-
  PickReads, walked.
-/
import Derived.Test.YtbenbbgcdcafaaaPkTold
namespace Go.Proofs.Ytbenbbgcdcafaaa
open Go.RowKit
set_option linter.unusedVariables false

theorem readF_ok (b : Nat) (h : b < 256) : (readF b).ok = true := by
  unfold Pk.ok readF
  dsimp only
  rw [inB_yes (by omega) (by omega), inB_yes (by omega) (by omega)]
  rfl
theorem all_read (bs : List Nat) (h : ∀ b ∈ bs, b < 256) : (bs.map readF).all Pk.ok = true := by
  rw [List.all_eq_true]
  intro p hp
  obtain ⟨b, hb, rfl⟩ := List.mem_map.1 hp
  exact readF_ok b (h b hb)
theorem by_read (b : Nat) (h : b < 256) : ((Pk.by (readF b) : Nat) : Int) = bits .andNot .u8 ((b : Nat) : Int) 8 := by
  have key : ∀ b : Fin 256, ((Pk.by (readF b.1) : Nat) : Int) = bits .andNot .u8 ((b.1 : Nat) : Int) 8 := by decide +kernel
  exact key ⟨b, h⟩
/-- Put at picks that all may be. -/
theorem Put_yes (a : Option Addr) (len cap : Nat) (ps : List Pk) (w : World) (hr : PkRow w a len ps) (hl : len ≤ 1000) (hok : ps.all Pk.ok = true) :
    Calls Try.prog 12 #[.slice a len cap] w fun e w' => ∃ v, e = .returned (.tuple #[v, .bool true]) ∧ OwnBy w.heap.size v (ps.map Pk.by) w' ∧ Below w.heap.size w w' := by
  refine (Put_any a len cap ps w hr hl).mono fun e w' h => ?_
  obtain ⟨⟨_, v, h1, h2⟩ | ⟨h0, _⟩, h3⟩ := h
  · exact ⟨v, h1, h2, h3⟩
  · rw [hok] at h0; cases h0
theorem by_small {ps : List Pk} (h : ps.all Pk.ok = true) : ∀ b ∈ ps.map Pk.by, b < 256 := by
  intro b hb
  obtain ⟨p, hp, rfl⟩ := List.mem_map.1 hb
  exact by_lt (List.all_eq_true.1 h p hp)

set_option maxRecDepth 100000 in
set_option maxHeartbeats 4000000 in
theorem reads_law (a : Option Addr) (len cap : Nat) (bs : List Nat) (w : World) (hr : ByRow w a len bs) (hlm : len ≤ maxLen) :
    Calls Try.prog 3 #[.slice a len cap] w fun e w' => e = .returned (.bool true) ∧ Below w.heap.size w w' := by
  unfold maxLen at hlm
  have HT := hid told7
  have HR := hid hr
  have HAL := hid (all_read bs hr.lt)
  clear hr
  by_cases hl : len ≤ 200
  · go_enter Try.func3, Try.ntmps3
    go_upto_region 4 with (go_at_call 9; (with_reducible refine (Read_any _ _ _ _ _ HR.out (by omega)).mono ?_); rintro e w1 ⟨v1, rfl, ho1, hb1⟩; have HO1 := hid ho1; have HB1 := hid hb1; clear ho1 hb1)
    have hcnt := HR.out.cnt
    obtain ⟨x1, c1, rfl, hx1, hn1, hc1, hm1⟩ := HO1.out.shape
    rw [List.length_map, hcnt] at hx1 hc1 ⊢
    have HX1 := hid hx1
    clear hx1 hn1 hc1 hm1
    go_upto_region 6 with (first | (go_at_call 11; (with_reducible refine (RRead_any _ _ _ _ _ (HR.out.below HB1.out) (by omega)).mono ?_); rintro e w2 ⟨v2, rfl, ho2, hb2⟩; obtain ⟨x2, c2, rfl, hx2, hn2, hc2, hm2⟩ := ho2.shape; rw [List.length_map, hcnt] at hx2 ⊢; have HX2 := hid hx2; have HB2 := hid hb2; clear ho2 hb2 hx2 hn2 hc2 hm2) | (go_at_call 10; (with_reducible refine (Same_yes _ _ _ _ _ _ _ (HX1.out.below HB2.out) HX2.out (by omega)).mono ?_); rintro e w3 ⟨rfl, hb3⟩; have HB3 := hid (bthen HB2.out hb3); clear hb3))
    go_upto_region 7 with (go_at_call 12; (with_reducible refine (Put_yes _ _ _ _ _ (HX1.out.below HB3.out) (by omega) HAL.out).mono ?_); rintro e w4 ⟨v4, rfl, ho4, hb4⟩; have HO4 := hid ho4; have HB4 := hid (bthen HB3.out hb4); clear ho4 hb4)
    obtain ⟨x4, c4, rfl, hx4, hn4, hc4, hm4⟩ := HO4.out.shape (by_small HAL.out)
    rw [List.length_map, List.length_map, hcnt] at hx4 ⊢
    have HX4 := hid hx4
    have HBB := hid (bthen HB1.out HB4.out)
    clear hx4 hn4 hc4 hm4 HO4 HO1 HX1
    have HCN := hid hcnt
    clear hcnt
    go_wp2
    go_loopw [6] (fun i wr => ∃ k : Nat, k ≤ len ∧ i = .int .i64 k ∧ Below w4.heap.size w4 wr) (fun i _ => len - (intOf i).toNat)
    case atStart => exact ⟨0, Nat.zero_le _, rfl, Below.refl _ _⟩
    case round =>
      obtain ⟨k, hk, rfl, hs⟩ := hrel
      have HS := hid hs
      clear hs
      by_cases hlt : k < len
      · obtain ⟨b, off, rfl, hbl, hcell⟩ := HR.out.at (by omega)
        obtain ⟨b', off', rfl, hbl', hcell'⟩ := HX4.out.at (by omega)
        have d0 := (HS.out.cell (p := ⟨b', off' + k, none⟩) hbl').trans (hcell' k hlt)
        have c0 := ((bthen HBB.out HS.out).cell (p := ⟨b, off + k, none⟩) hbl).trans (hcell k hlt)
        have hb := HR.out.small hlt
        have e : ((((bs.map readF).map Pk.by).getD k 0 : Nat) : Int) = bits .andNot .u8 ((bs.getD k 0 : Nat) : Int) 8 := by
          have hcnt := HCN.out
          have hkb : k < bs.length := by omega
          rw [← by_read _ hb]
          simp [List.getD_eq_getElem?_getD, hkb]
        rw [e] at d0
        generalize bs.getD k 0 = x at c0 d0
        clear hcell hcell' e hb
        go_wp2
        go_quiet (fail)
        go_wp2
        go_roundw
        case rel => exact ⟨k + 1, by omega, by go_num, bdrewN HS.out⟩
        case measure => simp [intOf]; omega
      · go_wp2_with (go_at_call 8; (with_reducible refine (HT.out _).mono ?_); rintro e w5 ⟨rfl, hb5⟩; have HB5 := hid hb5; clear hb5)
        go_ret
        exact ⟨rfl, bthen (bthen HBB.out HS.out) HB5.out⟩
  · go_enter Try.func3, Try.ntmps3
    go_wp2_with (go_at_call 8; (with_reducible refine (HT.out _).mono ?_); rintro e w5 ⟨rfl, hb5⟩; have HB5 := hid hb5; clear hb5)
    go_ret
    exact ⟨rfl, HB5.out⟩

end Go.Proofs.Ytbenbbgcdcafaaa
