/-
  places: the Ats among an error's parts. Where, at a chain.
-/
import Derived.Test.YtblalejegjieaaaGreatDoorLoneAs
import Derived.Test.YtblalejegjieaaaGreatDoorCode
import Derived.Maps.AppendAt
namespace Go.Proofs.YtblalejegjieaaaGreatDoor
open Go.RowKit

theorem ErrType.below {w w' : World} (h : ErrType w) (hb : Below w.heap.size w w') : ErrType w' := (hb.cell (p := ⟨10, 0, none⟩) (World.block_lt_of_cell? w _ h)).trans h

theorem As_part_at {w : World} {b : Nat} (hg : ErrType w) :
    Calls Tryz.prog 39 #[.iface 67 (.agg #[errV 76 ⟨b, 0, none⟩]), .iface 84 (.pointer (some ⟨w.heap.size, 0, none⟩))] (w.alloc (.cells #[.pointer none] 76)) fun e w' =>
      e = .returned (.bool true) ∧ w'.cell? ⟨w.heap.size, 0, none⟩ = some (.pointer (some ⟨b, 0, none⟩)) ∧ Wrote (fun j => j = w.heap.size) w w' := by
  have hg1 := hg.below (bnew (bid w) (.cells #[.pointer none] 76))
  have ht := heap_alloc_new w (.cells #[.pointer none] 76)
  refine (As_lone (t := w.heap.size) (r := true) (R := fun W w' => w'.cell? ⟨w.heap.size, 0, none⟩ = some (.pointer (some ⟨b, 0, none⟩)) ∧ Wrote (fun j => j = w.heap.size) W w') hg1 rfl (by simp) (hid fun W hW => ?_)).mono ?_
  · have h2 := (hW.block w.heap.size (by simp)).trans ht
    exact lone_as_at (b := b) (t := w.heap.size) (hg1.below hW) (cell_of_blk h2 0) (frozen_of_blk h2 0)
  · rintro e w' ⟨rfl, W, hb, hc, hw⟩
    exact ⟨rfl, hc, (((Wrote.refl (fun j => j = w.heap.size) w).alloc _).trans (Wrote.of_below hb _)).trans hw⟩

theorem As_part_str {w : World} {b : Addr} (hg : ErrType w) :
    Calls Tryz.prog 39 #[.iface 67 (.agg #[errV 149 b]), .iface 84 (.pointer (some ⟨w.heap.size, 0, none⟩))] (w.alloc (.cells #[.pointer none] 76)) fun e w' =>
      e = .returned (.bool false) ∧ Below w.heap.size w w' := by
  have hg1 := hg.below (bnew (bid w) (.cells #[.pointer none] 76))
  refine (As_lone (t := w.heap.size) (r := false) (R := fun W w' => Below W.heap.size W w') hg1 rfl (by simp) (hid fun W _ => lone_as_str W b w.heap.size)).mono ?_
  rintro e w' ⟨rfl, W, hb, hw⟩
  exact ⟨rfl, bthen (bthen (bnew (bid w) _) hb) hw⟩

theorem info_ptr : ∃ i, Tryz.prog.info? 76 = some i ∧ i.zero = some (.pointer none) ∧ i.size = 1 ∧ i.bytes = 8 :=
  info_parts (by kernel_rfl)
theorem ownsRow_lower {w : World} {B B' : Nat} {E : TypeId} {n k : Nat} {v : Value} {xs : List Value} (h : w.ownsRow B E n v k xs) (hb : B' ≤ B) : w.ownsRow B' E n v k xs := by
  refine ⟨h.1, ?_⟩
  rcases h.2 with h' | ⟨g, cap, cur, h', h1, h2, h3⟩
  · exact .inl h'
  · exact .inr ⟨g, cap, cur, h', Nat.le_trans hb h1, h2, h3⟩
def ptrOf (x : Nat × Addr) : Value := .pointer (some x.2)

set_option maxRecDepth 100000 in
set_option maxHeartbeats 4000000 in
theorem places_chain {w : World} {ks : List (Nat × Addr)} (hc : Chain w ks) (hg : ErrType w) :
    Calls Tryz.prog 33 #[errV (ks.getD 0 k0).1 (ks.getD 0 k0).2] w fun e w' => ∃ lv, e = .returned lv ∧ w'.ownsRow w.heap.size 76 1 lv (ks.length - 1) ((ks.take (ks.length - 1)).map ptrOf) ∧ Below w.heap.size w w' := by
  have HP := hid (parts_cells hc)
  have HC := hid hc
  have HG := hid hg
  have hfew := hc.few
  have hfull := hc.full
  obtain ⟨i0, hi0, hz0, hz1, hz2⟩ := info_ptr
  clear hc hg
  generalize (ks.getD 0 k0).1 = T0 at HP ⊢
  generalize (ks.getD 0 k0).2 = b0 at HP ⊢
  go_enter Tryz.func33, Tryz.ntmps33
  go_wp2_with (go_at_call 27; refine HP.out.mono ?_; rintro e w1 ⟨g, cap, rfl, hcell, hgl, hcap, hb1⟩; have HCE := hid hcell; have HB1 := hid hb1; clear hcell hb1)
  go_loopw [3, 10] (fun lv i wr => ∃ (j : Nat) (v : Value), j ≤ ks.length ∧ i = .int .i64 j ∧ v = lv ∧ wr.ownsRow w1.heap.size 76 1 v (min j (ks.length - 1)) ((ks.take (min j (ks.length - 1))).map ptrOf) ∧ Below w1.heap.size w1 wr) (fun _ i _ => ks.length - (intOf i).toNat)
  case atStart => exact ⟨0, _, by omega, rfl, rfl, by rw [Nat.zero_min]; exact World.ownsRow_nil _ _ _ _, bid w1⟩
  case round =>
    obtain ⟨j, v, hj, rfl, rfl, hrow, hb2⟩ := hrel
    have HB2 := hid hb2
    have HR := hid hrow
    clear hrow
    by_cases hlt : j < ks.length
    · have cj := (hb2.cell (p := ⟨g, j, none⟩) hgl).trans (HCE.out j hlt)
      have HGW := hid ((HG.out.below HB1.out).below (hb2))
      have HCW := hid ((HC.out.below HB1.out).below hb2)
      have i0' : (0 : Int) ≤ (j : Int) := by omega
      have i1 : (j : Int) < ((ks.length : Nat) : Int) := by omega
      have HLT := hid hlt
      clear hb2
      by_cases hl : j + 1 < ks.length
      · obtain ⟨b, t, p, hk, _⟩ := HC.out.more j hl
        have e : ks.getD j k0 = (76, ⟨b, 0, none⟩) := by
          rw [List.getElem?_eq_getElem hlt] at hk
          simp [List.getD, hlt, Option.some.inj hk]
        rw [e] at cj
        have HAS := hid (As_part_at (b := b) HGW.out)
        have hmin : min j (ks.length - 1) = j := by omega
        rw [hmin] at HR
        have HL := hid hl
        have HKK := hid hk
        clear hl hmin hk e hlt
        have E1 : Hid (j + 1 ≤ maxLen) := hid (by unfold maxLen; have := HLT.out; omega)
        have E2 : Hid ((j + 1) * 8 ≤ 140737488355328) := hid (by have := HLT.out; omega)
        go_wp2_with (first | (go_at_call 39; refine HAS.out.mono ?_; rintro e w3 ⟨rfl, hc3, hw3⟩; have HW3 := hid hw3; have HR3 := hid (ownsRow_kept HR.out hw3 (fun gg hgg e => by obtain ⟨_, cs, t', hh⟩ := ownsRow_block HR.out hgg; have := lt_of_block hh; omega)); have HS3 := hid (Nat.le_trans HB2.out.size hw3.size); clear hw3) | (at_builtin; refine wpList_append_own_at _ rfl _ _ 72 rfl w1.heap.size 76 i0 (.pointer none) 1 8 Tryz.underlying72 hi0 hz0 hz1 hz2 rfl (by decide) v j _ rfl (ownsRow_kept HR3.out (Wrote.of_below (bnew (bid w3) _) (fun _ => False)) (fun _ _ h => h)) ⟨w3.heap.size, 0, none⟩ 1 1 [.pointer (some ⟨b, 0, none⟩)] rfl rfl (cell_one_new _ _ _) (by simp [Value.oneCell']) E1.out E2.out (Nat.le_trans HS3.out (bnew (bid w3) _).size) ?_; intro v5 w5 hown5 hg5 hn5 hat5; have HO5 := hid (And.intro hown5 hg5); clear hown5 hg5 hn5 hat5))
        go_roundw
        case rel =>
          have hl := HL.out
          have hm : min (j + 1) (ks.length - 1) = j + 1 := by omega
          refine ⟨j + 1, v5, by omega, by go_num, rfl, ?_, ?_⟩
          · rw [hm, List.take_add_one, HKK.out, List.map_append]
            exact HO5.out.1
          · have hw : Wrote (fun q => w1.heap.size ≤ q) wr w5 := ((HW3.out.mono (fun q _ e => by have := HB2.out.size; show w1.heap.size ≤ q; omega)).alloc _).grown HO5.out.2 (fun q e _ => (ownsRow_block HR.out e).1)
            exact HB2.out.trans (hw.below HB2.out.size (fun q hq e => by have : w1.heap.size ≤ q := e; omega))
        case measure => have := HLT.out; simp [intOf]; omega
      · obtain ⟨b, hk, _⟩ := HC.out.last j (by omega)
        have e : ks.getD j k0 = (149, b) := by
          rw [List.getElem?_eq_getElem hlt] at hk
          simp [List.getD, hlt, Option.some.inj hk]
        rw [e] at cj
        have HAS := hid (As_part_str (b := b) HGW.out)
        have HL := hid hl
        clear hl hk e hlt
        go_wp2_with (go_at_call 39; refine HAS.out.mono ?_; rintro e w3 ⟨rfl, hb3⟩; have HB3 := hid hb3; clear hb3)
        go_roundw
        case rel =>
          have hl := HL.out
          have hl2 := HLT.out
          have hm : min (j + 1) (ks.length - 1) = min j (ks.length - 1) := by omega
          refine ⟨j + 1, v, by omega, by go_num, rfl, ?_, bthen HB2.out HB3.out⟩
          rw [hm]
          exact ownsRow_kept HR.out (Wrote.of_below HB3.out (fun _ => False)) (fun _ _ h => h)
        case measure => have := HLT.out; simp [intOf]; omega
    · have hjn : j = ks.length := by omega
      clear hlt
      go_wp2_with fail
      go_ret
      refine ⟨v, rfl, ?_, bthen HB1.out HB2.out⟩
      have h := ownsRow_lower HR.out HB1.out.size
      rw [hjn, show min ks.length (ks.length - 1) = ks.length - 1 by omega] at h
      exact h

end Go.Proofs.YtblalejegjieaaaGreatDoor

namespace Go.Proofs.YtblalejegjieaaaGreatDoor
open Go.RowKit

theorem bdrewN' {w W : World} {n : Nat} (h : Below w.heap.size w W) : Below w.heap.size w (W.drewN n) := ⟨h.os, h.tape, h.output, h.size, h.block⟩

theorem ptr_cell {w : World} {B g cap : Nat} {E : TypeId} {ks : List (Nat × Addr)} (h : w.ownsRow B E 1 (.slice (some ⟨g, 0, none⟩) ks.length cap) ks.length (ks.map ptrOf)) {j : Nat} {x : Nat × Addr} (hj : ks[j]? = some x) :
    w.cell? ⟨g, j, none⟩ = some (.pointer (some x.2)) := by
  have hl : j < ks.length := (List.getElem?_eq_some_iff.1 hj).1
  rw [World.ownsRow.cellAt h j (by simpa using hl)]
  rw [List.getElem?_eq_getElem hl] at hj
  simp [ptrOf, Option.some.inj hj, hl]

set_option maxRecDepth 100000 in
set_option maxHeartbeats 2000000 in
theorem Where_none {w : World} {ks : List (Nat × Addr)} (hc : Chain w ks) (hg : ErrType w) (h1 : ks.length = 1) :
    Calls Tryz.prog 15 #[errV (ks.getD 0 k0).1 (ks.getD 0 k0).2] w fun e w' => e = .returned (.tuple #[.int .i64 0, .int .i64 0, .bool false]) ∧ Below w.heap.size w w' := by
  have HP := places_chain hc hg
  rw [h1] at HP
  have HQ := hid HP
  clear HP hc hg
  generalize (ks.getD 0 k0).1 = T0 at HQ ⊢
  generalize (ks.getD 0 k0).2 = b0 at HQ ⊢
  go_enter Tryz.func15, Tryz.ntmps15
  go_wp2_with (go_at_call 33; refine HQ.out.mono ?_; rintro e w1 ⟨lv, rfl, hr, hb1⟩; obtain ⟨a, cap, rfl⟩ : ∃ a cap, lv = .slice a 0 cap := (by (rcases row_form hr with ⟨h, _⟩ | ⟨g, cap, h⟩; exact ⟨none, 0, h⟩; exact ⟨_, cap, h⟩)); have HB1 := hid hb1; clear hr hb1)
  exact bodyPost_ret (v := .tuple #[.int .i64 0, .int .i64 0, .bool false]) (by simp [results, Tryz.results15, go_sem]) rfl ⟨rfl, HB1.out⟩

set_option maxRecDepth 100000 in
set_option maxHeartbeats 2000000 in
theorem Where_at {w : World} {ks : List (Nat × Addr)} (hc : Chain w ks) (hg : ErrType w) {b : Nat} {t p : Int} {x : Value} (h1 : 1 < ks.length) (hk : ks[0]? = some (76, ⟨b, 0, none⟩)) (ha : AtAt w b t p x) :
    Calls Tryz.prog 15 #[errV (ks.getD 0 k0).1 (ks.getD 0 k0).2] w fun e w' => e = .returned (.tuple #[.int .i64 t, .int .i64 p, .bool true]) ∧ Below w.heap.size w w' := by
  have HQ := hid (places_chain hc hg)
  have hfew := hc.few
  obtain ⟨m, hm⟩ : ∃ m, ks.length - 1 = m + 1 := ⟨ks.length - 2, by omega⟩
  rw [hm] at HQ
  have hk2 : (ks.take (m + 1))[0]? = some (76, ⟨b, 0, none⟩) := by rw [List.getElem?_take]; simpa using hk
  have HK := hid hk2
  have HA := hid ha
  have hm9 : m < 1000 := by omega
  clear hc hg hk hk2 ha h1 hfew
  have HXL := hid (show (ks.take (m + 1)).length = m + 1 by rw [List.length_take]; omega)
  generalize ks.take (m + 1) = xs at HQ HK HXL
  generalize (ks.getD 0 k0).1 = T0 at HQ ⊢
  generalize (ks.getD 0 k0).2 = b0 at HQ ⊢
  go_enter Tryz.func15, Tryz.ntmps15
  have i0 : (0 : Int) < ((m + 1 : Nat) : Int) := by omega
  have i1 : (((m + 1 : Nat) : Int) == 0) = false := by simp; omega
  go_wp2_with (go_at_call 33; refine HQ.out.mono ?_; rintro e w1 ⟨lv, rfl, hr, hb1⟩; obtain ⟨g, cap, rfl⟩ : ∃ g cap, lv = .slice (some ⟨g, 0, none⟩) (m + 1) cap := (by (rcases row_form hr with ⟨_, h⟩ | ⟨g, cap, h⟩; omega; exact ⟨g, cap, h⟩)); have c0 := ptr_cell (ks := xs) (by rw [HXL.out]; exact hr) HK.out; have hat := (HA.out.kept (Wrote.of_below hb1 (fun _ => False)) fun h => h).facts; obtain ⟨c1, c2, c3⟩ := hat; have HB1 := hid hb1; clear hr hb1)
  go_quiet (fail)
  go_wp2
  exact bodyPost_ret (v := .tuple #[.int .i64 t, .int .i64 p, .bool true]) (by simp [results, Tryz.results15, go_sem]) rfl ⟨rfl, bdrewN' HB1.out⟩

end Go.Proofs.YtblalejegjieaaaGreatDoor
