/-
  fresh: whether an error was not yet met; it is noted.
-/
import Derived.Test.YtblalejegjieaaaGreatDoorMet
namespace Go.Proofs.YtblalejegjieaaaGreatDoor
open Go.RowKit

set_option maxRecDepth 100000 in
set_option maxHeartbeats 1000000 in
theorem fresh_in {w : World} {r : Nat} {ks : List (Nat × Addr)} {T : Nat} {b : Addr} {p q s : Nat} {x : Value} (hm : MetAt w r ks) (hk : ∀ k ∈ ks, ErrAt w k.1 k.2) (h : ErrAt w T b)
    (hp : w.cell? ⟨p, 0, none⟩ = some (.map (some r))) (hq : w.cell? ⟨q, 0, none⟩ = some (errV T b)) (hs : w.cell? ⟨s, 0, none⟩ = some x) (hf : w.frozen? ⟨s, 0, none⟩ = false)
    (hrp : ¬ r = p) (hrq : ¬ r = q) (hrs : ¬ r = s) :
    Calls Tryz.prog 67 #[.pointer (some ⟨p, 0, none⟩), .pointer (some ⟨q, 0, none⟩), .pointer (some ⟨s, 0, none⟩)] w fun e w' =>
      e = .returned (.tuple #[]) ∧ (MetAt w' r (putKey ks (T, b)) ∧ w'.cell? ⟨s, 0, none⟩ = some (.bool (decide ((T, b) ∉ ks))) ∧ Wrote (fun k => k = r ∨ k = s) w w') := by
  have hl := run_lookup_met hm hk h
  have hnew : Wrote (fun _ => False) w (w.alloc (.cells #[] 120)) := .of_below (bnew (bid w) _) _
  obtain ⟨w2, hu, hm2, hw2⟩ := run_mapUpdate_met (hm.kept hnew fun h => h) (fun k hk' => (hk k hk').kept hnew fun h => h) (h.kept hnew fun h => h)
  have HM2 := hid hm2
  have HW2 := hid hw2
  have lp := World.block_lt_of_cell? w _ hp
  have lq := World.block_lt_of_cell? w _ hq
  have ls := World.block_lt_of_cell? w _ hs
  have hp1 := ((bnew (bid w) (.cells #[] 120)).cell (p := ⟨p, 0, none⟩) lp).trans hp
  have hq1 := ((bnew (bid w) (.cells #[] 120)).cell (p := ⟨q, 0, none⟩) lq).trans hq
  have hsb : w2.heap[s]? = w.heap[s]? := (hw2.block s (Nat.lt_of_lt_of_le ls (by simp)) (fun e => hrs e.symm)).trans (Below.heap_alloc _ _ _ ls)
  have hs1 : w2.cell? ⟨s, 0, none⟩ = some x := (World.cell?_of_block hsb).trans hs
  have hf1 : w2.frozen? ⟨s, 0, none⟩ = false := (World.frozen?_of_block hsb).trans hf
  clear hm2 hw2 hnew hm hk hsb hs hf
  go_enter Tryz.func67, Tryz.ntmps67
  go_wp2
  first | go_end0 | refine bodyPost_ret (results_none rfl _ _ _) rfl ?_
  refine ⟨rfl, HM2.out.kept (Wrote.setCell (S := fun k => k = s) (Wrote.refl _ w2) (fun _ => rfl) _) hrs, ?_, ?_⟩
  · exact (by first | (simp [hs1]; done) | rw [World.cell?_setCell_same (h := hs1)])
  · exact (((Wrote.refl _ w).alloc _).then HW2.out (fun i _ he => .inl he)).setCell (fun _ => .inr rfl) _

set_option maxRecDepth 100000 in
set_option maxHeartbeats 1000000 in
theorem fresh_any {w : World} {r : Nat} {ks : List (Nat × Addr)} {T : Nat} {b : Addr} (hm : MetAt w r ks) (hk : ∀ k ∈ ks, ErrAt w k.1 k.2) (h : ErrAt w T b) :
    Calls Tryz.prog 41 #[.map (some r), errV T b] w fun e w' =>
      e = .returned (.bool (decide ((T, b) ∉ ks))) ∧ MetAt w' r (putKey ks (T, b)) ∧ Wrote (fun k => k = r) w w' := by
  have hrl := hm.lt
  have hb0 : Below w.heap.size w (((w.alloc (.cells #[.map (some r)] 85)).alloc (.cells #[errV T b] 46)).alloc (.cells #[.bool true] 4)) := bnew (bnew (bnew (bid w) _) _) _
  have hw0 := Wrote.of_below hb0 (fun _ => False)
  have n1 : ¬ r = w.heap.size := by omega
  have n2 : ¬ r = w.heap.size + 1 := by omega
  have n3 : ¬ r = w.heap.size + 1 + 1 := by omega
  have hC := hid (calm3 67 (.pointer (some ⟨w.heap.size, 0, none⟩)) (.pointer (some ⟨w.heap.size + 1, 0, none⟩)) (.pointer (some ⟨w.heap.size + 1 + 1, 0, none⟩)) _ _ (by simp [go_sem])
    (fresh_in (p := w.heap.size) (q := w.heap.size + 1) (s := w.heap.size + 1 + 1) (x := .bool true) (hm.kept hw0 fun h => h) (fun k hk' => (hk k hk').kept hw0 fun h => h) (h.kept hw0 fun h => h) (by simp [go_sem]) (by simp [go_sem]) (by simp [go_sem]) (by simp [go_sem]) n1 n2 n3))
  clear hm hk h n1 n2 n3 hw0
  have hmf : ∀ (fn : Fn) (first cap : Array Value) (w : World), (Instr.makeFunc fn first cap).run Tryz.prog w = .ok (.func fn first cap) w := fun _ _ _ _ => rfl
  go_enter Tryz.func41, Tryz.ntmps41
  go_wp2_with (go_at_call 66; refine (hC.out).mono ?_; rintro e w1 ⟨rfl, hm1, hc1, hw1⟩; have HM1 := hid hm1; have HW1 := hid hw1; clear hm1 hw1)
  go_ret
  refine ⟨by show Ending.returned (Value.bool (!decide ((T, b) ∈ ks))) = _; simp, HM1.out, ?_⟩
  exact (Wrote.of_below hb0 (fun k => k = r)).then HW1.out (fun i hi he => by rcases he with he | he <;> omega)

end Go.Proofs.YtblalejegjieaaaGreatDoor
