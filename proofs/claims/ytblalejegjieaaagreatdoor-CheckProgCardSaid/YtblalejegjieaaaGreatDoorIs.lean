/-
  errors.Is at a part by itself: whether it is the target.
-/
import Derived.Test.YtblalejegjieaaaGreatDoorWrap
import Derived.LoopN
namespace Go.Proofs.YtblalejegjieaaaGreatDoor
open Go.RowKit Go.Extern.Stop Go.Stop Go.Extern

theorem run_eql_err {W : World} {T T' : Nat} {b b' : Addr} (h : ErrAt W T b) (h' : ErrAt W T' b') : (binOp .eql 46 (errV T b) (errV T' b')).run Tryz.prog W = .ok (.bool (decide (T = T' ∧ b = b'))) W := by
  simp only [binOp]
  simp [run_equal_err h h']

theorem assert_is_at (v : Value) (w : World) : (Instr.typeAssert (.iface 76 v) 46 130 true).run Tryz.prog w = .ok (.tuple #[.nilIface, .bool false]) w :=
  run_typeAssert_lacksB Tryz.underlying130 (by kernel_rfl) (by kernel_rfl) v _ w
theorem assert_is_str (v : Value) (w : World) : (Instr.typeAssert (.iface 149 v) 46 130 true).run Tryz.prog w = .ok (.tuple #[.nilIface, .bool false]) w :=
  run_typeAssert_lacksB Tryz.underlying130 (by kernel_rfl) (by kernel_rfl) v _ w
theorem assert_is_lone (v : Value) (w : World) : (Instr.typeAssert (.iface 67 v) 46 130 true).run Tryz.prog w = .ok (.tuple #[.iface 67 v, .bool true]) w :=
  run_typeAssert_hasB Tryz.underlying130 (by kernel_rfl) v _ w
theorem assert_one_lone (v : Value) (w : World) : (Instr.typeAssert (.iface 67 v) 46 123 true).run Tryz.prog w = .ok (.tuple #[.nilIface, .bool false]) w :=
  run_typeAssert_lacksB Tryz.underlying123 (by kernel_rfl) (by kernel_rfl) v _ w
theorem assert_many_lone (v : Value) (w : World) : (Instr.typeAssert (.iface 67 v) 46 125 true).run Tryz.prog w = .ok (.tuple #[.nilIface, .bool false]) w :=
  run_typeAssert_lacksB Tryz.underlying125 (by kernel_rfl) (by kernel_rfl) v _ w
theorem assert_is_err {w : World} {T : Nat} {b : Addr} (h : ErrAt w T b) (W : World) : (Instr.typeAssert (errV T b) 46 130 true).run Tryz.prog W = .ok (.tuple #[.nilIface, .bool false]) W := by
  rcases h.type with rfl | rfl
  · exact assert_is_at _ W
  · exact assert_is_str _ W

set_option maxRecDepth 100000 in
set_option maxHeartbeats 1000000 in
theorem lone_is {w : World} {T T' : Nat} {b b' : Addr} (h : ErrAt w T b) (h' : ErrAt w T' b') :
    Calls Tryz.prog 105 #[.agg #[errV T b], errV T' b'] w fun e w' => e = .returned (.bool (decide (T = T' ∧ b = b'))) ∧ Below w.heap.size w w' := by
  have hb0 : Below w.heap.size w (((w.alloc (.cells #[errV T b] 67)).alloc (.cells #[errV T' b'] 46)).alloc (.cells #[.bool false] 4)) := bnew (bnew (bnew (bid w) _) _) _
  have hw0 := Wrote.of_below hb0 (fun _ => False)
  have hq := run_eql_err (h.kept hw0 fun h => h) (h'.kept hw0 fun h => h)
  have ha := assert_is_err h (((w.alloc (.cells #[errV T b] 67)).alloc (.cells #[errV T' b'] 46)).alloc (.cells #[.bool false] 4))
  clear hw0 h h'
  by_cases hd : T = T' ∧ b = b'
  · rw [decide_eq_true hd] at hq ⊢
    clear hd ha
    go_enter Tryz.func105, Tryz.ntmps105
    go_wp2
    exact bodyPost_ret (v := .bool true) (by simp [results, Tryz.results105, go_sem]) rfl ⟨rfl, bnew (bnew (bnew (bid w) _) _) _⟩
  · rw [decide_eq_false hd] at hq ⊢
    clear hd
    go_enter Tryz.func105, Tryz.ntmps105
    go_wp2
    exact bodyPost_ret (v := .bool false) (by simp [results, Tryz.results105, go_sem]) rfl ⟨rfl, bnew (bnew (bnew (bnew (bid w) _) _) _) _⟩

theorem run_eql_nil (t : TypeId) (v : Value) (W : World) : (binOp .eql 46 (.iface t v) .nilIface).run Tryz.prog W = .ok (.bool false) W := by
  have h : ∀ d : Nat, (Op.equalIn (d + 1) 46 (.iface t v) .nilIface).run Tryz.prog W = .ok false W := fun d => by simp [Op.equalIn, run_underlying Tryz.underlying46]
  simp only [binOp]
  simp [Op.equal, Op.maxDepth, h 9999]
theorem run_eql_lone {T' : Nat} {b' : Addr} {w : World} (h : ErrAt w T' b') (v : Value) (W : World) : (binOp .eql 46 (.iface 67 v) (errV T' b')).run Tryz.prog W = .ok (.bool false) W :=
  run_eql_iface_types 67 T' v _ Tryz.underlying46 (by rcases h.type with rfl | rfl <;> decide) W

set_option maxRecDepth 100000 in
set_option maxHeartbeats 1000000 in
theorem is_lone {w : World} {T T' : Nat} {b b' : Addr} (h : ErrAt w T b) (h' : ErrAt w T' b') :
    Calls Tryz.prog 45 #[.iface 67 (.agg #[errV T b]), errV T' b', .bool true] w fun e w' => e = .returned (.bool (decide (T = T' ∧ b = b'))) ∧ Below w.heap.size w w' := by
  have hq := run_eql_lone h' (.agg #[errV T b])
  have ha := assert_is_lone (.agg #[errV T b])
  have ho := assert_one_lone (.agg #[errV T b])
  have hm := assert_many_lone (.agg #[errV T b])
  have hme : ∀ W, (method 283 67 (.agg #[errV T b]) "Is").run Tryz.prog W = .ok (105, .agg #[errV T b]) W := fun W => by kernel_rfl
  have HL := hid (lone_is h h')
  clear h h'
  generalize decide (T = T' ∧ b = b') = r at HL ⊢
  go_enter Tryz.func45, Tryz.ntmps45
  go_wp2
  refine wp_loop_rounds 1 ?_
  rw [rounds_succ]
  cases r
  · go_wp2_with (go_at_call 105; refine HL.out.mono ?_; rintro e w1 ⟨rfl, hb1⟩; have HB1 := hid hb1; clear hb1)
    go_ret
    exact ⟨rfl, HB1.out⟩
  · go_wp2_with (go_at_call 105; refine HL.out.mono ?_; rintro e w1 ⟨rfl, hb1⟩; have HB1 := hid hb1; clear hb1)
    go_ret
    exact ⟨rfl, HB1.out⟩

theorem typeOf_at (v : Value) (w : World) : (ReflectliteType.typeOf #[.iface 76 v]).run Tryz.prog w = .ok (.iface 128 (.agg #[.pointer (some ⟨11, 76, none⟩)])) w := by kernel_rfl
theorem typeOf_str (v : Value) (w : World) : (ReflectliteType.typeOf #[.iface 149 v]).run Tryz.prog w = .ok (.iface 128 (.agg #[.pointer (some ⟨11, 149, none⟩)])) w := by kernel_rfl
theorem method_comparable (h : Value) (w : World) : (method 283 128 (.agg #[h]) "Comparable").run Tryz.prog w = .ok (115, .agg #[h]) w := by kernel_rfl
/-- What the entry for Comparable reckons. -/
def comparableF (t : TypeId) : Sem Value := do
  Rtype.noPackHeld "Comparable" t
  pure (.bool (← typeInfo t).comparable)
theorem comparable_at (w : World) : (ReflectliteType.method comparableF #[.agg #[.pointer (some ⟨11, 76, none⟩)]]).run Tryz.prog w = .ok (.bool true) w := by kernel_rfl
theorem comparable_str (w : World) : (ReflectliteType.method comparableF #[.agg #[.pointer (some ⟨11, 149, none⟩)]]).run Tryz.prog w = .ok (.bool true) w := by kernel_rfl

set_option maxRecDepth 100000 in
set_option maxHeartbeats 1000000 in
theorem Is_lone {w : World} {T T' : Nat} {b b' : Addr} (h : ErrAt w T b) (h' : ErrAt w T' b') :
    Calls Tryz.prog 28 #[.iface 67 (.agg #[errV T b]), errV T' b'] w fun e w' => e = .returned (.bool (decide (T = T' ∧ b = b'))) ∧ Below w.heap.size w w' := by
  have h35 := @run_callFunc_extern Tryz.prog 44 _ ReflectliteType.typeOf Tryz.func44 (by kernel_rfl) (by kernel_rfl) (by kernel_rfl) (by kernel_rfl)
  have h85 := @run_callFunc_extern Tryz.prog 115 _ (ReflectliteType.method comparableF) Tryz.func115 (by kernel_rfl) (by kernel_rfl) (by kernel_rfl) (by kernel_rfl)
  have mC := method_comparable
  have q1 := run_eql_nil 67 (.agg #[errV T b])
  have q2 := run_eql_nil T' (.pointer (some b'))
  have HL := hid (is_lone h h')
  have ht := h'.type
  clear h h'
  generalize decide (T = T' ∧ b = b') = r at HL ⊢
  rcases ht with rfl | rfl
  · have tO := typeOf_at (.pointer (some b'))
    have cO := comparable_at
    go_enter Tryz.func28, Tryz.ntmps28
    go_wp2_with (go_at_call 45; refine HL.out.mono ?_; rintro e w1 ⟨rfl, hb1⟩; have HB1 := hid hb1; clear hb1)
    go_ret
    exact ⟨rfl, HB1.out⟩
  · have tO := typeOf_str (.pointer (some b'))
    have cO := comparable_str
    go_enter Tryz.func28, Tryz.ntmps28
    go_wp2_with (go_at_call 45; refine HL.out.mono ?_; rintro e w1 ⟨rfl, hb1⟩; have HB1 := hid hb1; clear hb1)
    go_ret
    exact ⟨rfl, HB1.out⟩

end Go.Proofs.YtblalejegjieaaaGreatDoor
