/-
  Text: what is asked of an error's own method.
-/
import Derived.Test.YtbobjhadckeieaaDoorNil
namespace Go.Proofs.YtbobjhadckeieaaDoor
open Go.RowKit

/-- Block b is one of errors.New: its text. -/
def StrAt (w : World) (b : Addr) (s : ByteArray) : Prop := w.cell? b = some (.string s)
theorem StrAt.below {w w' : World} {b : Addr} {s : ByteArray} (h : StrAt w b s) (hw : Below w.heap.size w w') : StrAt w' b s := (hw.cell (World.block_lt_of_cell? w _ h)).trans h

theorem error_str {w : World} {b : Addr} {s : ByteArray} (h : StrAt w b s) :
    Calls Tryd.prog 139 #[.pointer (some b)] w fun e w' => e = .returned (.string s) ∧ w' = w := by
  have c0 : w.cell? b = some (.string s) := h
  clear h
  go_enter Tryd.func139, Tryd.ntmps139
  go_wp2
  go_ret
  exact ⟨rfl, rfl⟩

set_option maxRecDepth 100000 in
set_option maxHeartbeats 1000000 in
/-- The closure, at an error whose method Error is function f. -/
theorem text_in {w : World} {T : Nat} {b : Addr} {s : ByteArray} {q r : Nat} {f : FuncId} {y : Value} (hq : w.cell? ⟨q, 0, none⟩ = some (errV T b)) (hr : w.cell? ⟨r, 0, none⟩ = some y) (hf : w.frozen? ⟨r, 0, none⟩ = false)
    (hme : ∀ W, (method 298 T (.pointer (some b)) "Error").run Tryd.prog W = .ok (f, .pointer (some b)) W)
    (hen : ∀ W, (callFunc f #[.pointer (some b)]).run Tryd.prog W = .ok (.enter f #[.pointer (some b)]) W)
    (hE : Calls Tryd.prog f #[.pointer (some b)] w fun e w' => e = .returned (.string s) ∧ Below w.heap.size w w') :
    Calls Tryd.prog 48 #[.pointer (some ⟨q, 0, none⟩), .pointer (some ⟨r, 0, none⟩)] w fun e w' =>
      e = .returned (.tuple #[]) ∧ (w'.cell? ⟨r, 0, none⟩ = some (.string s) ∧ w'.frozen? ⟨r, 0, none⟩ = false ∧ Wrote (fun k => k = r) w w') := by
  have hl := World.block_lt_of_cell? w _ hr
  have HE := hid hE
  clear hE
  go_enter Tryd.func48, Tryd.ntmps48
  go_wp2
  refine HE.out.mono ?_
  rintro e w1 ⟨rfl, hb1⟩
  have cr := (hb1.cell (p := ⟨r, 0, none⟩) hl).trans hr
  have fr := (hb1.frozen (p := ⟨r, 0, none⟩) hl).trans hf
  dsimp only
  have HB1 := hid hb1
  clear hb1
  go_wp2
  first | go_end0 | refine bodyPost_ret (results_none rfl _ _ _) rfl ?_
  refine ⟨rfl, World.cell?_setCell_same' _ _ _ (by rw [cr]; rfl), (by rw [World.frozen?_setCell]; exact fr), (Wrote.of_below HB1.out (fun k => k = r)).setCell (p := ⟨r, 0, none⟩) (fun _ => rfl) _⟩

set_option maxRecDepth 100000 in
set_option maxHeartbeats 1000000 in
theorem Text_of {w : World} {T : Nat} {b : Addr} {s : ByteArray} {f : FuncId}
    (hme : ∀ W, (method 298 T (.pointer (some b)) "Error").run Tryd.prog W = .ok (f, .pointer (some b)) W)
    (hen : ∀ W, (callFunc f #[.pointer (some b)]).run Tryd.prog W = .ok (.enter f #[.pointer (some b)]) W)
    (hE : ∀ W, Below w.heap.size w W → Calls Tryd.prog f #[.pointer (some b)] W fun e w' => e = .returned (.string s) ∧ Below W.heap.size W w') :
    Calls Tryd.prog 21 #[errV T b] w fun e w' => e = .returned (.string s) ∧ Below w.heap.size w w' := by
  have hb0 : Below w.heap.size w ((w.alloc (.cells #[errV T b] 34)).alloc (.cells #[.string ⟨#[]⟩] 9)) := bnew (bnew (bid w) _) _
  have HC := hid (calm2 48 (.pointer (some ⟨w.heap.size, 0, none⟩)) (.pointer (some ⟨w.heap.size + 1, 0, none⟩)) _ _ (by simp [go_sem])
    (text_in (T := T) (b := b) (s := s) (f := f) (y := .string ⟨#[]⟩) (w := (w.alloc (.cells #[errV T b] 34)).alloc (.cells #[.string ⟨#[]⟩] 9)) (q := w.heap.size) (r := w.heap.size + 1) (by simp [go_sem]) (by simp [go_sem]) (by simp [go_sem]) hme hen (hE _ hb0)))
  have HB := hid hb0
  have hq := run_eql_nil T (.pointer (some b))
  have hmf : ∀ (fn : Fn) (first cap : Array Value) (w : World), (Instr.makeFunc fn first cap).run Tryd.prog w = .ok (.func fn first cap) w := fun _ _ _ _ => rfl
  clear hme hen hE hb0
  go_enter Tryd.func21, Tryd.ntmps21
  go_wp2_with (go_at_call 47; refine HC.out.mono ?_; rintro e w1 ⟨rfl, hc1, hf1, hw1⟩; have HW1 := hid hw1; clear hw1)
  have c9 : (w1.setCell ⟨w.heap.size + 1, 0, none⟩ (.string s)).cell? ⟨w.heap.size + 1, 0, none⟩ = some (.string s) := World.cell?_setCell_same' _ _ _ (by rw [hc1]; rfl)
  refine bodyPost_ret (v := .string s) (by simp [results, Tryd.results21, go_sem, c9]) rfl ⟨rfl, ?_⟩
  have a1 : Below w.heap.size w w1 := HB.out.trans (HW1.out.below HB.out.size (fun k hk e => by have : k = w.heap.size + 1 := e; omega))
  exact a1.setCell (p := ⟨w.heap.size + 1, 0, none⟩) (Nat.le_succ _) _

/-- Text of a code's own error. -/
theorem Text_str {w : World} {b : Addr} {s : ByteArray} (h : StrAt w b s) :
    Calls Tryd.prog 21 #[errV 167 b] w fun e w' => e = .returned (.string s) ∧ Below w.heap.size w w' :=
  Text_of (f := 139) (fun W => by kernel_rfl) (fun W => by simp [go_sem]) (fun W hW => (error_str (h.below hW)).mono (by rintro e w' ⟨rfl, rfl⟩; exact ⟨rfl, bid _⟩))

end Go.Proofs.YtbobjhadckeieaaDoor
