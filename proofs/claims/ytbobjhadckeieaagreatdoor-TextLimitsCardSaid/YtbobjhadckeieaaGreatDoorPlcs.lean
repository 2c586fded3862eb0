/-
  places: the Ats among an error's parts.
-/
import Derived.Test.YtbobjhadckeieaaGreatDoorLoneAs
import Derived.Test.YtbobjhadckeieaaGreatDoorCode
import Derived.Maps.AppendAt
namespace Go.Proofs.YtbobjhadckeieaaGreatDoor
open Go.RowKit

theorem ErrType.below {w w' : World} (h : ErrType w) (hb : Below w.heap.size w w') : ErrType w' := (hb.cell (p := ⟨11, 0, none⟩) (World.block_lt_of_cell? w _ h)).trans h

theorem As_part_at {w : World} {b : Nat} (hg : ErrType w) :
    Calls Tryz.prog 45 #[.iface 77 (.agg #[errV 73 ⟨b, 0, none⟩]), .iface 93 (.pointer (some ⟨w.heap.size, 0, none⟩))] (w.alloc (.cells #[.pointer none] 73)) fun e w' =>
      e = .returned (.bool true) ∧ w'.cell? ⟨w.heap.size, 0, none⟩ = some (.pointer (some ⟨b, 0, none⟩)) ∧ Wrote (fun j => j = w.heap.size) w w' := by
  have hg1 := hg.below (bnew (bid w) (.cells #[.pointer none] 73))
  have ht := heap_alloc_new w (.cells #[.pointer none] 73)
  refine (As_lone (t := w.heap.size) (r := true) (R := fun W w' => w'.cell? ⟨w.heap.size, 0, none⟩ = some (.pointer (some ⟨b, 0, none⟩)) ∧ Wrote (fun j => j = w.heap.size) W w') hg1 rfl (by simp) (hid fun W hW => ?_)).mono ?_
  · have h2 := (hW.block w.heap.size (by simp)).trans ht
    exact lone_as_at (b := b) (t := w.heap.size) (hg1.below hW) (cell_of_blk h2 0) (frozen_of_blk h2 0)
  · rintro e w' ⟨rfl, W, hb, hc, hw⟩
    exact ⟨rfl, hc, (((Wrote.refl (fun j => j = w.heap.size) w).alloc _).trans (Wrote.of_below hb _)).trans hw⟩

theorem As_part_str {w : World} {b : Addr} (hg : ErrType w) :
    Calls Tryz.prog 45 #[.iface 77 (.agg #[errV 208 b]), .iface 93 (.pointer (some ⟨w.heap.size, 0, none⟩))] (w.alloc (.cells #[.pointer none] 73)) fun e w' =>
      e = .returned (.bool false) ∧ Below w.heap.size w w' := by
  have hg1 := hg.below (bnew (bid w) (.cells #[.pointer none] 73))
  refine (As_lone (t := w.heap.size) (r := false) (R := fun W w' => Below W.heap.size W w') hg1 rfl (by simp) (hid fun W _ => lone_as_str W b w.heap.size)).mono ?_
  rintro e w' ⟨rfl, W, hb, hw⟩
  exact ⟨rfl, bthen (bthen (bnew (bid w) _) hb) hw⟩

theorem info_ptr : ∃ i, Tryz.prog.info? 73 = some i ∧ i.zero = some (.pointer none) ∧ i.size = 1 ∧ i.bytes = 8 :=
  info_parts (by kernel_rfl)
theorem ownsRow_lower {w : World} {B B' : Nat} {E : TypeId} {n k : Nat} {v : Value} {xs : List Value} (h : w.ownsRow B E n v k xs) (hb : B' ≤ B) : w.ownsRow B' E n v k xs := by
  refine ⟨h.1, ?_⟩
  rcases h.2 with h' | ⟨g, cap, cur, h', h1, h2, h3⟩
  · exact .inl h'
  · exact .inr ⟨g, cap, cur, h', Nat.le_trans hb h1, h2, h3⟩
def ptrOf (x : Nat × Addr) : Value := .pointer (some x.2)

set_option maxRecDepth 100000 in
set_option maxHeartbeats 4000000 in
theorem places_chain {w : World} {ks : List (Nat × Addr)} (hc : Chain w ks) (hg : ErrType w) :
    Calls Tryz.prog 26 #[errV (ks.getD 0 k0).1 (ks.getD 0 k0).2] w fun e w' => ∃ lv, e = .returned lv ∧ w'.ownsRow w.heap.size 73 1 lv (ks.length - 1) ((ks.take (ks.length - 1)).map ptrOf) ∧ Below w.heap.size w w' := by
  have HP := hid (parts_cells hc)
  have HC := hid hc
  have HG := hid hg
  have hfew := hc.few
  have hfull := hc.full
  obtain ⟨i0, hi0, hz0, hz1, hz2⟩ := info_ptr
  clear hc hg
  generalize (ks.getD 0 k0).1 = T0 at HP ⊢
  generalize (ks.getD 0 k0).2 = b0 at HP ⊢
  go_enter Tryz.func26, Tryz.ntmps26
  go_wp2_with (go_at_call 27; refine HP.out.mono ?_; rintro e w1 ⟨g, cap, rfl, hcell, hgl, hcap, hb1⟩; have HCE := hid hcell; have HB1 := hid hb1; clear hcell hb1)
  go_loopw [3, 10] (fun lv i wr => ∃ (j : Nat) (v : Value), j ≤ ks.length ∧ i = .int .i64 j ∧ v = lv ∧ wr.ownsRow w1.heap.size 73 1 v (min j (ks.length - 1)) ((ks.take (min j (ks.length - 1))).map ptrOf) ∧ Below w1.heap.size w1 wr) (fun _ i _ => ks.length - (intOf i).toNat)
  case atStart => exact ⟨0, _, by omega, rfl, rfl, by rw [Nat.zero_min]; exact World.ownsRow_nil _ _ _ _, bid w1⟩
  case round =>
    obtain ⟨j, v, hj, rfl, rfl, hrow, hb2⟩ := hrel
    have HB2 := hid hb2
    have HR := hid hrow
    clear hrow
    by_cases hlt : j < ks.length
    · have cj := (hb2.cell (p := ⟨g, j, none⟩) hgl).trans (HCE.out j hlt)
      have HGW := hid ((HG.out.below HB1.out).below (hb2))
      have HCW := hid ((HC.out.below HB1.out).below hb2)
      have i0' : (0 : Int) ≤ (j : Int) := by omega
      have i1 : (j : Int) < ((ks.length : Nat) : Int) := by omega
      have HLT := hid hlt
      clear hb2
      by_cases hl : j + 1 < ks.length
      · obtain ⟨b, t, p, hk, _⟩ := HC.out.more j hl
        have e : ks.getD j k0 = (73, ⟨b, 0, none⟩) := by
          rw [List.getElem?_eq_getElem hlt] at hk
          simp [List.getD, hlt, Option.some.inj hk]
        rw [e] at cj
        have HAS := hid (As_part_at (b := b) HGW.out)
        have hmin : min j (ks.length - 1) = j := by omega
        rw [hmin] at HR
        have HL := hid hl
        have HKK := hid hk
        clear hl hmin hk e hlt
        have E1 : Hid (j + 1 ≤ maxLen) := hid (by unfold maxLen; have := HLT.out; omega)
        have E2 : Hid ((j + 1) * 8 ≤ 140737488355328) := hid (by have := HLT.out; omega)
        go_wp2_with (first | (go_at_call 45; refine HAS.out.mono ?_; rintro e w3 ⟨rfl, hc3, hw3⟩; have HW3 := hid hw3; have HR3 := hid (ownsRow_kept HR.out hw3 (fun gg hgg e => by obtain ⟨_, cs, t', hh⟩ := ownsRow_block HR.out hgg; have := lt_of_block hh; omega)); have HS3 := hid (Nat.le_trans HB2.out.size hw3.size); clear hw3) | (at_builtin; refine wpList_append_own_at _ rfl _ _ 69 rfl w1.heap.size 73 i0 (.pointer none) 1 8 Tryz.underlying69 hi0 hz0 hz1 hz2 rfl (by decide) v j _ rfl (ownsRow_kept HR3.out (Wrote.of_below (bnew (bid w3) _) (fun _ => False)) (fun _ _ h => h)) ⟨w3.heap.size, 0, none⟩ 1 1 [.pointer (some ⟨b, 0, none⟩)] rfl rfl (cell_one_new _ _ _) (by simp [Value.oneCell']) E1.out E2.out (Nat.le_trans HS3.out (bnew (bid w3) _).size) ?_; intro v5 w5 hown5 hg5 hn5 hat5; have HO5 := hid (And.intro hown5 hg5); clear hown5 hg5 hn5 hat5))
        go_roundw
        case rel =>
          have hl := HL.out
          have hm : min (j + 1) (ks.length - 1) = j + 1 := by omega
          refine ⟨j + 1, v5, by omega, by go_num, rfl, ?_, ?_⟩
          · rw [hm, List.take_add_one, HKK.out, List.map_append]
            exact HO5.out.1
          · have hw : Wrote (fun q => w1.heap.size ≤ q) wr w5 := ((HW3.out.mono (fun q _ e => by have := HB2.out.size; show w1.heap.size ≤ q; omega)).alloc _).grown HO5.out.2 (fun q e _ => (ownsRow_block HR.out e).1)
            exact HB2.out.trans (hw.below HB2.out.size (fun q hq e => by have : w1.heap.size ≤ q := e; omega))
        case measure => have := HLT.out; simp [intOf]; omega
      · obtain ⟨b, hk, _⟩ := HC.out.last j (by omega)
        have e : ks.getD j k0 = (208, b) := by
          rw [List.getElem?_eq_getElem hlt] at hk
          simp [List.getD, hlt, Option.some.inj hk]
        rw [e] at cj
        have HAS := hid (As_part_str (b := b) HGW.out)
        have HL := hid hl
        clear hl hk e hlt
        go_wp2_with (go_at_call 45; refine HAS.out.mono ?_; rintro e w3 ⟨rfl, hb3⟩; have HB3 := hid hb3; clear hb3)
        go_roundw
        case rel =>
          have hl := HL.out
          have hl2 := HLT.out
          have hm : min (j + 1) (ks.length - 1) = min j (ks.length - 1) := by omega
          refine ⟨j + 1, v, by omega, by go_num, rfl, ?_, bthen HB2.out HB3.out⟩
          rw [hm]
          exact ownsRow_kept HR.out (Wrote.of_below HB3.out (fun _ => False)) (fun _ _ h => h)
        case measure => have := HLT.out; simp [intOf]; omega
    · have hjn : j = ks.length := by omega
      clear hlt
      go_wp2_with fail
      go_ret
      refine ⟨v, rfl, ?_, bthen HB1.out HB2.out⟩
      have h := ownsRow_lower HR.out HB1.out.size
      rw [hjn, show min ks.length (ks.length - 1) = ks.length - 1 by omega] at h
      exact h

end Go.Proofs.YtbobjhadckeieaaGreatDoor
