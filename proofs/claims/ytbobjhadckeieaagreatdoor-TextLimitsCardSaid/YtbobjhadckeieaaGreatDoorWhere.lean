/-
  Where, at a chain.
-/
import Derived.Test.YtbobjhadckeieaaGreatDoorPlcs
namespace Go.Proofs.YtbobjhadckeieaaGreatDoor
open Go.RowKit

theorem bdrewN' {w W : World} {n : Nat} (h : Below w.heap.size w W) : Below w.heap.size w (W.drewN n) := ⟨h.os, h.tape, h.output, h.size, h.block⟩

theorem ptr_cell {w : World} {B g cap : Nat} {E : TypeId} {ks : List (Nat × Addr)} (h : w.ownsRow B E 1 (.slice (some ⟨g, 0, none⟩) ks.length cap) ks.length (ks.map ptrOf)) {j : Nat} {x : Nat × Addr} (hj : ks[j]? = some x) :
    w.cell? ⟨g, j, none⟩ = some (.pointer (some x.2)) := by
  have hl : j < ks.length := (List.getElem?_eq_some_iff.1 hj).1
  rw [World.ownsRow.cellAt h j (by simpa using hl)]
  rw [List.getElem?_eq_getElem hl] at hj
  simp [ptrOf, Option.some.inj hj, hl]

set_option maxRecDepth 100000 in
set_option maxHeartbeats 2000000 in
theorem Where_none {w : World} {ks : List (Nat × Addr)} (hc : Chain w ks) (hg : ErrType w) (h1 : ks.length = 1) :
    Calls Tryz.prog 13 #[errV (ks.getD 0 k0).1 (ks.getD 0 k0).2] w fun e w' => e = .returned (.tuple #[.int .i64 0, .int .i64 0, .bool false]) ∧ Below w.heap.size w w' := by
  have HP := places_chain hc hg
  rw [h1] at HP
  have HQ := hid HP
  clear HP hc hg
  generalize (ks.getD 0 k0).1 = T0 at HQ ⊢
  generalize (ks.getD 0 k0).2 = b0 at HQ ⊢
  go_enter Tryz.func13, Tryz.ntmps13
  go_wp2_with (go_at_call 26; refine HQ.out.mono ?_; rintro e w1 ⟨lv, rfl, hr, hb1⟩; obtain ⟨a, cap, rfl⟩ : ∃ a cap, lv = .slice a 0 cap := (by (rcases row_form hr with ⟨h, _⟩ | ⟨g, cap, h⟩; exact ⟨none, 0, h⟩; exact ⟨_, cap, h⟩)); have HB1 := hid hb1; clear hr hb1)
  exact bodyPost_ret (v := .tuple #[.int .i64 0, .int .i64 0, .bool false]) (by simp [results, Tryz.results13, go_sem]) rfl ⟨rfl, HB1.out⟩

set_option maxRecDepth 100000 in
set_option maxHeartbeats 2000000 in
theorem Where_at {w : World} {ks : List (Nat × Addr)} (hc : Chain w ks) (hg : ErrType w) {b : Nat} {t p : Int} {x : Value} (h1 : 1 < ks.length) (hk : ks[0]? = some (73, ⟨b, 0, none⟩)) (ha : AtAt w b t p x) :
    Calls Tryz.prog 13 #[errV (ks.getD 0 k0).1 (ks.getD 0 k0).2] w fun e w' => e = .returned (.tuple #[.int .i64 t, .int .i64 p, .bool true]) ∧ Below w.heap.size w w' := by
  have HQ := hid (places_chain hc hg)
  have hfew := hc.few
  obtain ⟨m, hm⟩ : ∃ m, ks.length - 1 = m + 1 := ⟨ks.length - 2, by omega⟩
  rw [hm] at HQ
  have hk2 : (ks.take (m + 1))[0]? = some (73, ⟨b, 0, none⟩) := by rw [List.getElem?_take]; simpa using hk
  have HK := hid hk2
  have HA := hid ha
  have hm9 : m < 1000 := by omega
  clear hc hg hk hk2 ha h1 hfew
  have HXL := hid (show (ks.take (m + 1)).length = m + 1 by rw [List.length_take]; omega)
  generalize ks.take (m + 1) = xs at HQ HK HXL
  generalize (ks.getD 0 k0).1 = T0 at HQ ⊢
  generalize (ks.getD 0 k0).2 = b0 at HQ ⊢
  go_enter Tryz.func13, Tryz.ntmps13
  have i0 : (0 : Int) < ((m + 1 : Nat) : Int) := by omega
  have i1 : (((m + 1 : Nat) : Int) == 0) = false := by simp; omega
  go_wp2_with (go_at_call 26; refine HQ.out.mono ?_; rintro e w1 ⟨lv, rfl, hr, hb1⟩; obtain ⟨g, cap, rfl⟩ : ∃ g cap, lv = .slice (some ⟨g, 0, none⟩) (m + 1) cap := (by (rcases row_form hr with ⟨_, h⟩ | ⟨g, cap, h⟩; omega; exact ⟨g, cap, h⟩)); have c0 := ptr_cell (ks := xs) (by rw [HXL.out]; exact hr) HK.out; have hat := (HA.out.kept (Wrote.of_below hb1 (fun _ => False)) fun h => h).facts; obtain ⟨c1, c2, c3⟩ := hat; have HB1 := hid hb1; clear hr hb1)
  go_quiet (fail)
  go_wp2
  exact bodyPost_ret (v := .tuple #[.int .i64 t, .int .i64 p, .bool true]) (by simp [results, Tryz.results13, go_sem]) rfl ⟨rfl, bdrewN' HB1.out⟩

end Go.Proofs.YtbobjhadckeieaaGreatDoor
