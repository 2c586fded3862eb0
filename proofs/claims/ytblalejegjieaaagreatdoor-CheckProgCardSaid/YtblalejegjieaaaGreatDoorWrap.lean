/-
  wrapped: what stands right within an error.
-/
import Derived.Test.YtblalejegjieaaaGreatDoorFresh
import Derived.Stop.Asserts
namespace Go.Proofs.YtblalejegjieaaaGreatDoor
open Go.RowKit

theorem assert_one_at (v : Value) (w : World) : (Instr.typeAssert (.iface 76 v) 46 123 true).run Tryz.prog w = .ok (.tuple #[.iface 76 v, .bool true]) w :=
  run_typeAssert_hasB Tryz.underlying123 (by kernel_rfl) v _ w
theorem assert_one_str (v : Value) (w : World) : (Instr.typeAssert (.iface 149 v) 46 123 true).run Tryz.prog w = .ok (.tuple #[.nilIface, .bool false]) w :=
  run_typeAssert_lacksB Tryz.underlying123 (by kernel_rfl) (by kernel_rfl) v _ w
theorem assert_many_str (v : Value) (w : World) : (Instr.typeAssert (.iface 149 v) 46 125 true).run Tryz.prog w = .ok (.tuple #[.nilIface, .bool false]) w :=
  run_typeAssert_lacksB Tryz.underlying125 (by kernel_rfl) (by kernel_rfl) v _ w

/-- Block b is an At: a thread, a place, and the error behind. -/
def AtAt (w : World) (b : Nat) (t p : Int) (e : Value) : Prop := w.heap[b]? = some (.cells #[.int .i64 t, .int .i64 p, e] 75 (0, 0))
theorem AtAt.err {w : World} {b : Nat} {t p : Int} {e : Value} (h : AtAt w b t p e) : ErrAt w 76 ⟨b, 0, none⟩ := ⟨.inl rfl, _, _, h⟩
theorem AtAt.lt {w : World} {b : Nat} {t p : Int} {e : Value} (h : AtAt w b t p e) : b < w.heap.size := lt_of_block h
theorem AtAt.kept {S : Nat → Prop} {w w' : World} {b : Nat} {t p : Int} {e : Value} (h : AtAt w b t p e) (hw : Wrote S w w') (hs : ¬ S b) : AtAt w' b t p e := (hw.block b h.lt hs).trans h
theorem AtAt.facts {w : World} {b : Nat} {t p : Int} {e : Value} (h : AtAt w b t p e) :
    w.cell? ⟨b, 0, none⟩ = some (.int .i64 t) ∧ w.cell? ⟨b, 1, none⟩ = some (.int .i64 p) ∧ w.cell? ⟨b, 2, none⟩ = some e := ⟨cell_of_blk h 0, cell_of_blk h 1, cell_of_blk h 2⟩

theorem unwrap_at {w : World} {b : Nat} {t p : Int} {T' : Nat} {b' : Addr} (h : AtAt w b t p (errV T' b')) :
    Calls Tryz.prog 109 #[.pointer (some ⟨b, 0, none⟩)] w fun x w' => x = .returned (errV T' b') ∧ w' = w := by
  obtain ⟨c0, c1, c2⟩ := h.facts
  clear h
  go_enter Tryz.func109, Tryz.ntmps109
  go_wp2
  go_ret
  exact ⟨rfl, rfl⟩

set_option maxRecDepth 100000 in
set_option maxHeartbeats 1000000 in
theorem wrapped_in {w : World} {b : Nat} {t p : Int} {T' : Nat} {b' : Addr} {q s : Nat} (h : AtAt w b t p (errV T' b')) (hq : w.cell? ⟨q, 0, none⟩ = some (errV 76 ⟨b, 0, none⟩)) (hs : w.cell? ⟨s, 0, none⟩ = some (.slice none 0 0)) (hf : w.frozen? ⟨s, 0, none⟩ = false) :
    Calls Tryz.prog 69 #[.pointer (some ⟨q, 0, none⟩), .pointer (some ⟨s, 0, none⟩)] w fun x w' =>
      x = .returned (.tuple #[]) ∧ (w' = (w.setCell ⟨s, 0, none⟩ (.slice (some ⟨w.heap.size, 0, none⟩) 1 1)).alloc (.cells #[errV T' b'] 46)) := by
  have HU := hid (fun W (hW : AtAt W b t p (errV T' b')) => unwrap_at hW)
  have H := hid h
  have ls := World.block_lt_of_cell? w _ hs
  have hs1 := ((bnew (bid w) (.cells #[errV T' b'] 46)).cell (p := ⟨s, 0, none⟩) ls).trans hs
  have hf1 := ((bnew (bid w) (.cells #[errV T' b'] 46)).frozen (p := ⟨s, 0, none⟩) ls).trans hf
  have hme : (method 283 76 (.pointer (some ⟨b, 0, none⟩)) "Unwrap").run Tryz.prog w = .ok (109, .pointer (some ⟨b, 0, none⟩)) w := by kernel_rfl
  have ht := assert_one_at (.pointer (some ⟨b, 0, none⟩)) w
  clear h
  go_enter Tryz.func69, Tryz.ntmps69
  go_wp2_with (go_at_call 109; refine (HU.out _ H.out).mono ?_; rintro x w1 ⟨rfl, rfl⟩)
  first | go_end0 | refine bodyPost_ret (results_none rfl _ _ _) rfl ?_
  exact ⟨rfl, rfl⟩

set_option maxRecDepth 100000 in
set_option maxHeartbeats 1000000 in
theorem wrapped_in_str {w : World} {b : Addr} {q s : Nat} (hq : w.cell? ⟨q, 0, none⟩ = some (errV 149 b)) :
    Calls Tryz.prog 69 #[.pointer (some ⟨q, 0, none⟩), .pointer (some ⟨s, 0, none⟩)] w fun x w' => x = .returned (.tuple #[]) ∧ w' = w := by
  have ht := assert_one_str (.pointer (some b)) w
  have ht2 := assert_many_str (.pointer (some b)) w
  go_enter Tryz.func69, Tryz.ntmps69
  go_wp2
  first | go_end0 | refine bodyPost_ret (results_none rfl _ _ _) rfl ?_
  exact ⟨rfl, rfl⟩

set_option maxRecDepth 100000 in
set_option maxHeartbeats 1000000 in
theorem wrapped_at {w : World} {b : Nat} {t p : Int} {T' : Nat} {b' : Addr} (h : AtAt w b t p (errV T' b')) :
    Calls Tryz.prog 43 #[errV 76 ⟨b, 0, none⟩] w fun x w' =>
      ∃ g, x = .returned (.slice (some ⟨g, 0, none⟩) 1 1) ∧ w.heap.size ≤ g ∧ w'.cell? ⟨g, 0, none⟩ = some (errV T' b') ∧ Below w.heap.size w w' := by
  have hb0 : Below w.heap.size w ((w.alloc (.cells #[errV 76 ⟨b, 0, none⟩] 46)).alloc (.cells #[.slice none 0 0] 63)) := bnew (bnew (bid w) _) _
  have hw0 := Wrote.of_below hb0 (fun _ => False)
  have hC := hid (calm2 69 (.pointer (some ⟨w.heap.size, 0, none⟩)) (.pointer (some ⟨w.heap.size + 1, 0, none⟩)) _ _ (by simp [go_sem])
    (wrapped_in (q := w.heap.size) (s := w.heap.size + 1) (h.kept hw0 fun h => h) (by simp [go_sem]) (by simp [go_sem]) (by simp [go_sem])))
  clear h hw0
  have hmf : ∀ (fn : Fn) (first cap : Array Value) (w : World), (Instr.makeFunc fn first cap).run Tryz.prog w = .ok (.func fn first cap) w := fun _ _ _ _ => rfl
  go_enter Tryz.func43, Tryz.ntmps43
  go_wp2_with (go_at_call 66; refine (hC.out).mono ?_; rintro e w1 ⟨rfl, hw1⟩)
  subst hw1
  exact bodyPost_ret (v := .slice (some ⟨w.heap.size + 1 + 1, 0, none⟩) 1 1) (by simp [results, Tryz.results43, go_sem]) rfl ⟨w.heap.size + 1 + 1, rfl, by omega, by simp [go_sem], bnew (bnew (bnew (bid w) _) _) _⟩

set_option maxRecDepth 100000 in
set_option maxHeartbeats 1000000 in
theorem wrapped_str (w : World) (b : Addr) :
    Calls Tryz.prog 43 #[errV 149 b] w fun x w' => x = .returned (.slice none 0 0) ∧ Below w.heap.size w w' := by
  have hC := hid (calm2 69 (.pointer (some ⟨w.heap.size, 0, none⟩)) (.pointer (some ⟨w.heap.size + 1, 0, none⟩)) _ _ (by simp [go_sem])
    (wrapped_in_str (w := (w.alloc (.cells #[errV 149 b] 46)).alloc (.cells #[.slice none 0 0] 63)) (b := b) (q := w.heap.size) (s := w.heap.size + 1) (by simp [go_sem])))
  have hmf : ∀ (fn : Fn) (first cap : Array Value) (w : World), (Instr.makeFunc fn first cap).run Tryz.prog w = .ok (.func fn first cap) w := fun _ _ _ _ => rfl
  go_enter Tryz.func43, Tryz.ntmps43
  go_wp2_with (go_at_call 66; refine (hC.out).mono ?_; rintro e w1 ⟨rfl, hw1⟩)
  subst hw1
  exact bodyPost_ret (v := .slice none 0 0) (by simp [results, Tryz.results43, go_sem]) rfl ⟨rfl, bnew (bnew (bid w) _) _⟩

end Go.Proofs.YtblalejegjieaaaGreatDoor
