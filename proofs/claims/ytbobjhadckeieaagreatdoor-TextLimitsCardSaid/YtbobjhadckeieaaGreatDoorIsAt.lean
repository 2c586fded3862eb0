/-
  errors.Is at an At around a sentinel, and at nil.
-/
import Derived.Test.YtbobjhadckeieaaGreatDoorIs
namespace Go.Proofs.YtbobjhadckeieaaGreatDoor
open Go.RowKit Go.Extern.Stop Go.Stop Go.Extern

theorem run_eql_at_str (v v' : Value) (W : World) : (binOp .eql 47 (.iface 73 v) (.iface 208 v')).run Tryz.prog W = .ok (.bool false) W :=
  run_eql_iface_types 73 208 v v' Tryz.underlying47 (by decide) W

set_option maxRecDepth 100000 in
set_option maxHeartbeats 1000000 in
theorem is_at_str {w : World} {b : Nat} {b1 b' : Addr} {t p : Int} (h : AtAt w b t p (errV 208 b1)) (h1 : ErrAt w 208 b1) (h' : ErrAt w 208 b') :
    Calls Tryz.prog 44 #[errV 73 ⟨b, 0, none⟩, errV 208 b', .bool true] w fun e w' => e = .returned (.bool (decide (b1 = b'))) ∧ Below w.heap.size w w' := by
  have hq0 := run_eql_at_str (.pointer (some ⟨b, 0, none⟩)) (.pointer (some b'))
  have hq : (binOp .eql 47 (errV 208 b1) (errV 208 b')).run Tryz.prog w = .ok (.bool (decide (b1 = b'))) w := by
    have := run_eql_err h1 h'
    simpa using this
  have a0 := assert_is_at (.pointer (some ⟨b, 0, none⟩))
  have o0 := assert_one_at (.pointer (some ⟨b, 0, none⟩))
  have a1 := assert_is_str (.pointer (some b1))
  have o1 := assert_one_str (.pointer (some b1))
  have m1 := assert_many_str (.pointer (some b1))
  have hme : ∀ W, (method 347 73 (.pointer (some ⟨b, 0, none⟩)) "Unwrap").run Tryz.prog W = .ok (161, .pointer (some ⟨b, 0, none⟩)) W := fun W => by kernel_rfl
  have hz := run_eql_nil 208 (.pointer (some b1))
  have HU := hid (unwrap_at h)
  clear h h1 h'
  generalize decide (b1 = b') = r at hq ⊢
  go_enter Tryz.func44, Tryz.ntmps44
  go_wp2
  refine wp_loop_rounds 2 ?_
  rw [rounds_succ]
  go_wp2_with (go_at_call 161; refine HU.out.mono ?_; rintro e w1 ⟨rfl, rfl⟩)
  rw [rounds_succ]
  cases r
  · go_wp2
    go_ret
    exact ⟨rfl, bid _⟩
  · go_wp2
    go_ret
    exact ⟨rfl, bid _⟩

set_option maxRecDepth 100000 in
set_option maxHeartbeats 1000000 in
theorem Is_at_str {w : World} {b : Nat} {b1 b' : Addr} {t p : Int} (h : AtAt w b t p (errV 208 b1)) (h1 : ErrAt w 208 b1) (h' : ErrAt w 208 b') :
    Calls Tryz.prog 24 #[errV 73 ⟨b, 0, none⟩, errV 208 b'] w fun e w' => e = .returned (.bool (decide (b1 = b'))) ∧ Below w.heap.size w w' := by
  have h35 := @run_callFunc_extern Tryz.prog 43 _ ReflectliteType.typeOf Tryz.func43 (by kernel_rfl) (by kernel_rfl) (by kernel_rfl) (by kernel_rfl)
  have h85 := @run_callFunc_extern Tryz.prog 168 _ (ReflectliteType.method comparableF) Tryz.func168 (by kernel_rfl) (by kernel_rfl) (by kernel_rfl) (by kernel_rfl)
  have mC := method_comparable
  have q1 := run_eql_nil 73 (.pointer (some ⟨b, 0, none⟩))
  have q2 := run_eql_nil 208 (.pointer (some b'))
  have HL := hid (is_at_str h h1 h')
  have tO := typeOf_str (.pointer (some b'))
  have cO := comparable_str
  clear h h1 h'
  generalize decide (b1 = b') = r at HL ⊢
  go_enter Tryz.func24, Tryz.ntmps24
  go_wp2_with (go_at_call 44; refine HL.out.mono ?_; rintro e w1 ⟨rfl, hb1⟩; have HB1 := hid hb1; clear hb1)
  go_ret
  exact ⟨rfl, HB1.out⟩

end Go.Proofs.YtbobjhadckeieaaGreatDoor
