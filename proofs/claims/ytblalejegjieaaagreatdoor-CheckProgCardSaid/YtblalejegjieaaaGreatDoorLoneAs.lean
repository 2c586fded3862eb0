/-
  A part by itself, asked whether it is an At.
-/
import Derived.Test.YtblalejegjieaaaGreatDoorAs
namespace Go.Proofs.YtblalejegjieaaaGreatDoor
open Go.RowKit Go.Extern.Stop Go.Stop Go.Extern

/-- The library's own variable: the type 'error'. -/
def ErrType (w : World) : Prop := w.cell? ⟨10, 0, none⟩ = some (.iface 128 (.agg #[.pointer (some ⟨11, 46, none⟩)]))

theorem assert_at_at (b : Nat) (W : World) : (Instr.typeAssert (errV 76 ⟨b, 0, none⟩) 46 76 true).run Tryz.prog W = .ok (.tuple #[.pointer (some ⟨b, 0, none⟩), .bool true]) W := by
  simp [errV, Instr.typeAssert, run_underlying Tryz.underlying76]

theorem as_hit' {e : Addr} {t : Nat} {old : Value} {w : World} (hg : ErrType w) (ht0 : w.cell? ⟨t, 0, none⟩ = some old) (hf0 : w.frozen? ⟨t, 0, none⟩ = false) :
    Calls Tryz.prog 39 #[.iface 76 (.pointer (some e)), .iface 84 (.pointer (some ⟨t, 0, none⟩))] w fun ev w' =>
      ev = .returned (.bool true) ∧ w'.cell? ⟨t, 0, none⟩ = some (.pointer (some e)) ∧ Wrote (fun j => j = t) w w' := by
  have hl := World.block_lt_of_cell? w _ ht0
  refine (as_hit e ⟨t, 0, none⟩ old w hg ht0 hf0).mono ?_
  rintro ev w' ⟨rfl, rfl⟩
  refine ⟨rfl, ?_, ?_⟩
  · refine World.cell?_setCell_same' _ _ _ ?_
    rw [(bnew (bnew (bnew (bnew (bid w) _) _) _) _).cell (p := ⟨t, 0, none⟩) hl, ht0]
    rfl
  · exact ((((((Wrote.refl (fun j => j = t) w).alloc _).alloc _).alloc _).alloc _)).setCell (p := ⟨t, 0, none⟩) (fun _ => rfl) _

set_option maxRecDepth 100000 in
set_option maxHeartbeats 1000000 in
theorem lone_as_at {w : World} {b t : Nat} {old : Value} (hg : ErrType w) (ht0 : w.cell? ⟨t, 0, none⟩ = some old) (hf0 : w.frozen? ⟨t, 0, none⟩ = false) :
    Calls Tryz.prog 104 #[.agg #[errV 76 ⟨b, 0, none⟩], .iface 84 (.pointer (some ⟨t, 0, none⟩))] w fun e w' =>
      e = .returned (.bool true) ∧ w'.cell? ⟨t, 0, none⟩ = some (.pointer (some ⟨b, 0, none⟩)) ∧ Wrote (fun j => j = t) w w' := by
  have hl := World.block_lt_of_cell? w _ ht0
  have hlg := World.block_lt_of_cell? w _ hg
  have hb0 : Below w.heap.size w (((w.alloc (.cells #[errV 76 ⟨b, 0, none⟩] 67)).alloc (.cells #[.iface 84 (.pointer (some ⟨t, 0, none⟩))] 20)).alloc (.cells #[.bool false] 4)) := bnew (bnew (bnew (bid w) _) _) _
  have hC := as_hit' (e := ⟨b, 0, none⟩) (t := t) (old := old) (w := (((w.alloc (.cells #[errV 76 ⟨b, 0, none⟩] 67)).alloc (.cells #[.iface 84 (.pointer (some ⟨t, 0, none⟩))] 20)).alloc (.cells #[.bool false] 4)))
    ((hb0.cell (p := ⟨10, 0, none⟩) hlg).trans hg) ((hb0.cell (p := ⟨t, 0, none⟩) hl).trans ht0) ((hb0.frozen (p := ⟨t, 0, none⟩) hl).trans hf0)
  have hta := assert_at_at b
  have HC := hid hC
  have HB := hid hb0
  clear hC hb0
  go_enter Tryz.func104, Tryz.ntmps104
  go_wp2_with (go_at_call 39; refine HC.out.mono ?_; rintro e w1 ⟨rfl, hc1, hw1⟩; have hb2 : w1.heap[w.heap.size + 1 + 1]? = some (.cells #[.bool false] 4 (0, 0)) := (hw1.block (w.heap.size + 1 + 1) (by simp) (by show ¬ _ = _; have : t < w.heap.size := hl; omega)).trans (by have h := heap_alloc_new ((w.alloc (.cells #[errV 76 ⟨b, 0, none⟩] 67)).alloc (.cells #[.iface 84 (.pointer (some ⟨t, 0, none⟩))] 20)) (.cells #[.bool false] 4); rw [size_alloc2] at h; exact h); have cr := cell_of_blk hb2 0; have fr := frozen_of_blk hb2 0; simp only [List.getElem?_toArray, List.getElem?_cons_zero] at cr; have HW1 := hid hw1; have HC1 := hid hc1; clear hw1 hc1 hb2)
  have c9 : (w1.setCell ⟨w.heap.size + 1 + 1, 0, none⟩ (.bool true)).cell? ⟨w.heap.size + 1 + 1, 0, none⟩ = some (.bool true) := World.cell?_setCell_same' _ _ _ (by rw [cr]; rfl)
  have hn : ¬ t = w.heap.size + 1 + 1 := by have : t < w.heap.size := hl; omega
  refine bodyPost_ret (v := .bool true) (by simp [results, Tryz.results104, go_sem, c9]) rfl ⟨rfl, ?_, ?_⟩
  · exact (World.cell?_of_block (w := w1) (a := ⟨t, 0, none⟩) (Below.heap_setCell w1 ⟨w.heap.size + 1 + 1, 0, none⟩ (.bool true) t hn)).trans HC1.out
  · exact ((Wrote.of_below HB.out (fun j => j = t)).trans HW1.out).setCell (p := ⟨w.heap.size + 1 + 1, 0, none⟩) (fun h => absurd h (by show ¬ (w.heap.size + 1 + 1 < w.heap.size); omega)) _

theorem assert_at_str (b : Addr) (W : World) : (Instr.typeAssert (errV 149 b) 46 76 true).run Tryz.prog W = .ok (.tuple #[.pointer none, .bool false]) W := by
  have hz : (zeroValue 76).run Tryz.prog W = .ok (.pointer none) W := by kernel_rfl
  simp [errV, Instr.typeAssert, run_underlying Tryz.underlying76, hz]
theorem assert_as_str (v : Value) (w : World) : (Instr.typeAssert (.iface 149 v) 46 144 true).run Tryz.prog w = .ok (.tuple #[.nilIface, .bool false]) w :=
  run_typeAssert_lacksB Tryz.underlying144 (by kernel_rfl) (by kernel_rfl) v _ w
theorem assert_as_lone (v : Value) (w : World) : (Instr.typeAssert (.iface 67 v) 46 144 true).run Tryz.prog w = .ok (.tuple #[.iface 67 v, .bool true]) w :=
  run_typeAssert_hasB Tryz.underlying144 (by kernel_rfl) v _ w

set_option maxRecDepth 100000 in
set_option maxHeartbeats 1000000 in
theorem lone_as_str (w : World) (b : Addr) (t : Nat) :
    Calls Tryz.prog 104 #[.agg #[errV 149 b], .iface 84 (.pointer (some ⟨t, 0, none⟩))] w fun e w' => e = .returned (.bool false) ∧ Below w.heap.size w w' := by
  have hta := assert_at_str b
  have hts := assert_as_str (.pointer (some b))
  go_enter Tryz.func104, Tryz.ntmps104
  go_wp2
  exact bodyPost_ret (v := .bool false) (by simp [results, Tryz.results104, go_sem]) rfl ⟨rfl, bnew (bnew (bnew (bid w) _) _) _⟩

theorem as_typeOf54 (v : Value) (w : World) : (ReflectliteType.typeOf #[.iface 67 v]).run Tryz.prog w = .ok (.iface 128 (.agg #[.pointer (some ⟨11, 67, none⟩)])) w := by kernel_rfl
theorem as_assignable54 (w : World) : (ReflectliteType.relation "AssignableTo" ReflectliteType.assignableTo #[.agg #[.pointer (some ⟨11, 67, none⟩)], .iface 128 (.agg #[.pointer (some ⟨11, 76, none⟩)])]).run Tryz.prog w = .ok (.bool false) w := by kernel_rfl

set_option maxRecDepth 100000 in
set_option maxHeartbeats 4000000 in
/-- errors.As at a part by itself: by what its own As says. -/
theorem As_lone {w : World} {k v : Value} {t : Nat} {r : Bool} {R : World → World → Prop} (hg : ErrType w) (hk : k = .iface 67 v) (ht0 : t < w.heap.size)
    (HLA : Hid (∀ W, Below w.heap.size w W → Calls Tryz.prog 104 #[v, .iface 84 (.pointer (some ⟨t, 0, none⟩))] W fun e w' => e = .returned (.bool r) ∧ R W w')) :
    Calls Tryz.prog 39 #[k, .iface 84 (.pointer (some ⟨t, 0, none⟩))] w fun e w' => e = .returned (.bool r) ∧ ∃ W, Below w.heap.size w W ∧ R W w' := by
  subst hk
  have h6 := @run_callFunc_extern Tryz.prog 62 _ (fun args => ReflectliteValue.unpack (args.getD 0 (.tuple #[]))) Tryz.func62 (by kernel_rfl) (by kernel_rfl) (by kernel_rfl) (by kernel_rfl)
  have h7 := @run_callFunc_extern Tryz.prog 63 _ (ReflectliteValue.methodAny (ReflectliteValue.valueError "reflectlite.Value.Type" 0) (fun t _ _ _ => ReflectliteType.toType t)) Tryz.func63 (by kernel_rfl) (by kernel_rfl) (by kernel_rfl) (by kernel_rfl)
  have h8 := @run_callFunc_extern Tryz.prog 64 _ (ReflectliteValue.method (ReflectliteValue.valueError "reflectlite.Value.IsNil" 0) ReflectliteValue.isNil) Tryz.func64 (by kernel_rfl) (by kernel_rfl) (by kernel_rfl) (by kernel_rfl)
  have h27 := @run_callFunc_extern Tryz.prog 101 _ (ReflectliteType.abiMethod fun t => do pure (.int .u8 (← Rtype.kind t))) Tryz.func101 (by kernel_rfl) (by kernel_rfl) (by kernel_rfl) (by kernel_rfl)
  have h37 := @run_callFunc_extern Tryz.prog 116 _ (ReflectliteType.method ReflectliteType.elem) Tryz.func116 (by kernel_rfl) (by kernel_rfl) (by kernel_rfl) (by kernel_rfl)
  have h38 := @run_callFunc_extern Tryz.prog 117 _ (ReflectliteType.relation "Implements" ReflectliteType.implements_) Tryz.func117 (by kernel_rfl) (by kernel_rfl) (by kernel_rfl) (by kernel_rfl)
  have h10 := @run_callFunc_extern Tryz.prog 44 _ ReflectliteType.typeOf Tryz.func44 (by kernel_rfl) (by kernel_rfl) (by kernel_rfl) (by kernel_rfl)
  have h35 := @run_callFunc_extern Tryz.prog 114 _ (ReflectliteType.relation "AssignableTo" ReflectliteType.assignableTo) Tryz.func114 (by kernel_rfl) (by kernel_rfl) (by kernel_rfl) (by kernel_rfl)
  have h11 := @run_callFunc_extern Tryz.prog 78 _ (ReflectliteValue.method (ReflectliteValue.valueError "reflectlite.Value.Elem" 0) ReflectliteValue.elem) Tryz.func78 (by kernel_rfl) (by kernel_rfl) (by kernel_rfl) (by kernel_rfl)
  have h12 := @run_callFunc_extern Tryz.prog 79 _ ReflectliteValue.set Tryz.func79 (by kernel_rfl) (by kernel_rfl) (by kernel_rfl) (by kernel_rfl)
  have tO := as_typeOf54 v
  have mA := as_methodAssignableTo
  have a25 := as_assignable54
  have f6 := as_valueOf27
  have f7 := as_type27
  have mK := as_methodKind
  have mE := as_methodElem
  have mI := as_methodImplements
  have k27 := as_kind27
  have k25 := as_kind25
  have e27 := as_elem27
  have i25 := as_implements25
  have n8 := as_isNil27 ⟨w.heap.size, 0, none⟩ ⟨t, 0, none⟩ ((w.alloc (.cells #[.pointer (some ⟨t, 0, none⟩)] 84)).alloc (.cells #[.pointer (some ⟨11, 84, none⟩), .pointer (some ⟨w.heap.size, 0, none⟩), .int .u64 150] 112)) (by simp)
  have hlt : 10 < w.heap.size := by
    rcases Nat.lt_or_ge 10 w.heap.size with h | h
    · exact h
    · simp [ErrType, World.cell?, Array.getElem?_eq_none h] at hg
  have hg2 : ((w.alloc (.cells #[.pointer (some ⟨t, 0, none⟩)] 84)).alloc (.cells #[.pointer (some ⟨11, 84, none⟩), .pointer (some ⟨w.heap.size, 0, none⟩), .int .u64 150] 112)).cell? ⟨10, 0, none⟩ = some (.iface 128 (.agg #[.pointer (some ⟨11, 46, none⟩)])) := by
    rw [World.cell?_alloc_lt _ _ ⟨10, 0, none⟩ (by rw [size_alloc1]; exact Nat.lt_succ_of_lt hlt), World.cell?_alloc_lt _ _ ⟨10, 0, none⟩ hlt]; exact hg
  have hta := assert_as_lone v
  have hto := assert_one_lone v
  have htm := assert_many_lone v
  have hme : ∀ W, (method 283 67 v "As").run Tryz.prog W = .ok (104, v) W := fun W => by kernel_rfl
  have HB : Hid (∀ o1 o2 o3, Below w.heap.size w (((w.alloc o1).alloc o2).alloc o3)) := hid (fun _ _ _ => bnew (bnew (bnew (bid w) _) _) _)
  clear hg
  go_enter Tryz.func39, Tryz.ntmps39
  go_wp2
  refine wp_loop_rounds 1 ?_
  rw [rounds_succ]
  cases r
  · go_wp2_with (go_at_call 104; refine (HLA.out _ (HB.out _ _ _)).mono ?_; rintro e w1 ⟨rfl, hR⟩; have HR := hid hR; clear hR)
    go_ret
    exact ⟨rfl, _, HB.out _ _ _, HR.out⟩
  · go_wp2_with (go_at_call 104; refine (HLA.out _ (HB.out _ _ _)).mono ?_; rintro e w1 ⟨rfl, hR⟩; have HR := hid hR; clear hR)
    go_ret
    exact ⟨rfl, _, HB.out _ _ _, HR.out⟩

end Go.Proofs.YtblalejegjieaaaGreatDoor
