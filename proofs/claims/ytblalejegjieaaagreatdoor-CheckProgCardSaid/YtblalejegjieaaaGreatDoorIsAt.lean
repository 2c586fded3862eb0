/-
  errors.Is at an At around a sentinel, and at nil.
-/
import Derived.Test.YtblalejegjieaaaGreatDoorIs
namespace Go.Proofs.YtblalejegjieaaaGreatDoor
open Go.RowKit Go.Extern.Stop Go.Stop Go.Extern

theorem run_eql_at_str (v v' : Value) (W : World) : (binOp .eql 46 (.iface 76 v) (.iface 149 v')).run Tryz.prog W = .ok (.bool false) W :=
  run_eql_iface_types 76 149 v v' Tryz.underlying46 (by decide) W

set_option maxRecDepth 100000 in
set_option maxHeartbeats 1000000 in
theorem is_at_str {w : World} {b : Nat} {b1 b' : Addr} {t p : Int} (h : AtAt w b t p (errV 149 b1)) (h1 : ErrAt w 149 b1) (h' : ErrAt w 149 b') :
    Calls Tryz.prog 45 #[errV 76 ⟨b, 0, none⟩, errV 149 b', .bool true] w fun e w' => e = .returned (.bool (decide (b1 = b'))) ∧ Below w.heap.size w w' := by
  have hq0 := run_eql_at_str (.pointer (some ⟨b, 0, none⟩)) (.pointer (some b'))
  have hq : (binOp .eql 46 (errV 149 b1) (errV 149 b')).run Tryz.prog w = .ok (.bool (decide (b1 = b'))) w := by
    have := run_eql_err h1 h'
    simpa using this
  have a0 := assert_is_at (.pointer (some ⟨b, 0, none⟩))
  have o0 := assert_one_at (.pointer (some ⟨b, 0, none⟩))
  have a1 := assert_is_str (.pointer (some b1))
  have o1 := assert_one_str (.pointer (some b1))
  have m1 := assert_many_str (.pointer (some b1))
  have hme : ∀ W, (method 283 76 (.pointer (some ⟨b, 0, none⟩)) "Unwrap").run Tryz.prog W = .ok (109, .pointer (some ⟨b, 0, none⟩)) W := fun W => by kernel_rfl
  have hz := run_eql_nil 149 (.pointer (some b1))
  have HU := hid (unwrap_at h)
  clear h h1 h'
  generalize decide (b1 = b') = r at hq ⊢
  go_enter Tryz.func45, Tryz.ntmps45
  go_wp2
  refine wp_loop_rounds 2 ?_
  rw [rounds_succ]
  go_wp2_with (go_at_call 109; refine HU.out.mono ?_; rintro e w1 ⟨rfl, rfl⟩)
  rw [rounds_succ]
  cases r
  · go_wp2
    go_ret
    exact ⟨rfl, bid _⟩
  · go_wp2
    go_ret
    exact ⟨rfl, bid _⟩

set_option maxRecDepth 100000 in
set_option maxHeartbeats 1000000 in
theorem Is_at_str {w : World} {b : Nat} {b1 b' : Addr} {t p : Int} (h : AtAt w b t p (errV 149 b1)) (h1 : ErrAt w 149 b1) (h' : ErrAt w 149 b') :
    Calls Tryz.prog 28 #[errV 76 ⟨b, 0, none⟩, errV 149 b'] w fun e w' => e = .returned (.bool (decide (b1 = b'))) ∧ Below w.heap.size w w' := by
  have h35 := @run_callFunc_extern Tryz.prog 44 _ ReflectliteType.typeOf Tryz.func44 (by kernel_rfl) (by kernel_rfl) (by kernel_rfl) (by kernel_rfl)
  have h85 := @run_callFunc_extern Tryz.prog 115 _ (ReflectliteType.method comparableF) Tryz.func115 (by kernel_rfl) (by kernel_rfl) (by kernel_rfl) (by kernel_rfl)
  have mC := method_comparable
  have q1 := run_eql_nil 76 (.pointer (some ⟨b, 0, none⟩))
  have q2 := run_eql_nil 149 (.pointer (some b'))
  have HL := hid (is_at_str h h1 h')
  have tO := typeOf_str (.pointer (some b'))
  have cO := comparable_str
  clear h h1 h'
  generalize decide (b1 = b') = r at HL ⊢
  go_enter Tryz.func28, Tryz.ntmps28
  go_wp2_with (go_at_call 45; refine HL.out.mono ?_; rintro e w1 ⟨rfl, hb1⟩; have HB1 := hid hb1; clear hb1)
  go_ret
  exact ⟨rfl, HB1.out⟩

end Go.Proofs.YtblalejegjieaaaGreatDoor
