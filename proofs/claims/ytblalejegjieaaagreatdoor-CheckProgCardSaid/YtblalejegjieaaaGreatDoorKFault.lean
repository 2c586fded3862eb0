/-
  Package check: a fault at a place; the first of many.
-/
import Derived.Test.YtblalejegjieaaaGreatDoorKAs
import Derived.Test.YtblalejegjieaaaGreatDoorKPlain
namespace Go.Proofs.YtblalejegjieaaaGreatDoor
open Go.RowKit
set_option linter.unusedVariables false

/-- A value that tells a fault. -/
def Tells (sb : Nat → Addr) (w : World) (v : Value) (f : Flt) : Prop :=
  match f with
  | none => v = .nilIface
  | some (c, none) => 1 ≤ c ∧ c ≤ 10 ∧ v = errV 149 (sb c)
  | some (c, some (t, p)) => 1 ≤ c ∧ c ≤ 10 ∧ ∃ b, v = errV 76 ⟨b, 0, none⟩ ∧ AtAt w b t p (errV 149 (sb c))
theorem Tells.below {sb : Nat → Addr} {w w' : World} {v : Value} {f : Flt} (h : Tells sb w v f) (hb : Below w.heap.size w w') : Tells sb w' v f := by
  match f, h with
  | none, h => exact h
  | some (c, none), h => exact h
  | some (c, some (t, p)), h =>
    obtain ⟨h1, h2, b, hv, ha⟩ := h
    exact ⟨h1, h2, b, hv, ha.kept (Wrote.of_below hb (fun _ => False)) fun h => h⟩
theorem Tells.err {sb : Nat → Addr} {w : World} {v : Value} {x : Nat × Option (Int × Int)} (h : Tells sb w v (some x)) : ∃ T b, v = errV T b := by
  match x, h with
  | (c, none), h => exact ⟨_, _, h.2.2⟩
  | (c, some (t, p)), h => obtain ⟨_, _, b, hv, _⟩ := h; exact ⟨_, _, hv⟩
theorem run_neq_err (t : TypeId) (v : Value) (W : World) : (binOp .neq 46 (.iface t v) .nilIface).run Tryz.prog W = .ok (.bool true) W := by
  have h : ∀ d : Nat, (Op.equalIn (d + 1) 46 (.iface t v) .nilIface).run Tryz.prog W = .ok false W := fun d => by simp [Op.equalIn, run_underlying Tryz.underlying46]
  simp only [binOp]
  simp [Op.equal, Op.maxDepth, h 9999]
theorem run_neq_nils (W : World) : (binOp .neq 46 .nilIface .nilIface).run Tryz.prog W = .ok (.bool false) W := by
  have h : ∀ d : Nat, (Op.equalIn (d + 1) 46 .nilIface .nilIface).run Tryz.prog W = .ok true W := fun d => by simp [Op.equalIn, run_underlying Tryz.underlying46]
  simp only [binOp]
  simp [Op.equal, Op.maxDepth, h 9999]
/-- What a call hands back. -/
def ToldRet (sb : Nat → Addr) (f : Flt) (w : World) (e : Ending) (w' : World) : Prop := ∃ v, e = .returned v ∧ Tells sb w' v f ∧ Below w.heap.size w w'
/-- What lies at package level, of which errors are made. -/
structure Errs (sb : Nat → Addr) (w : World) : Prop where
  sents : Sents w sb
  et : ErrType w
theorem Errs.below {sb : Nat → Addr} {w w' : World} (h : Errs sb w) (hb : Below w.heap.size w w') : Errs sb w' := ⟨h.sents.below hb, h.et.below hb⟩

set_option maxRecDepth 100000 in
set_option maxHeartbeats 2000000 in
theorem placed_any {sb : Nat → Addr} {w : World} {v : Value} {f : Flt} (hE : Errs sb w) (h : Tells sb w v f) (t p : Int) :
    Calls Tryz.prog 26 #[v, .int .i64 t, .int .i64 p] w (ToldRet sb (placeF f t p) w) := by
  have hE1 := hE.below (bnew (bid w) (.cells #[.pointer none] 76))
  match f, h with
  | none, h =>
    subst h
    have HA := hid (As_nil (w.alloc (.cells #[.pointer none] 76)) (.iface 84 (.pointer (some ⟨w.heap.size, 0, none⟩))))
    clear hE hE1
    go_enter Tryz.func26, Tryz.ntmps26
    go_wp2_with (first | (go_at_call 39; refine HA.out.mono ?_; rintro e w1 ⟨rfl, hb1⟩; have HB1 := hid hb1; clear hb1) | (go_at_call 40; refine (Put_nil _ _ _).mono ?_; rintro e w2 ⟨rfl, rfl⟩))
    go_ret
    exact ⟨_, rfl, rfl, bthen (bnew (bid w) _) HB1.out⟩
  | some (c, none), h =>
    obtain ⟨c1, c2, rfl⟩ := h
    have HA := hid (As_str (b := sb c) (t := w.heap.size) hE1.et (by simp))
    have HC := hid (And.intro c1 c2)
    clear hE hE1 c1 c2
    go_enter Tryz.func26, Tryz.ntmps26
    go_wp2_with (first | (go_at_call 39; refine HA.out.mono ?_; rintro e w1 ⟨rfl, hb1⟩; have HB1 := hid hb1; clear hb1) | (go_at_call 40; refine (Put_err _ _ _ _ _).mono ?_; rintro e w2 ⟨rfl, rfl⟩))
    go_ret
    exact ⟨_, rfl, ⟨HC.out.1, HC.out.2, _, rfl, heap_alloc_new _ _⟩, bnew (bthen (bnew (bid w) _) HB1.out) _⟩
  | some (c, some (t', p')), h =>
    obtain ⟨c1, c2, b, rfl, ha⟩ := h
    have hb0 := bnew (bid w) (.cells #[.pointer none] 76)
    have HA := hid (as_hit' (e := ⟨b, 0, none⟩) (t := w.heap.size) (old := .pointer none) hE1.et (cell_of_blk (heap_alloc_new _ _) 0) (frozen_of_blk (heap_alloc_new w (.cells #[.pointer none] 76)) 0))
    have HT := hid (show Tells sb w (errV 76 ⟨b, 0, none⟩) (some (c, some (t', p'))) from ⟨c1, c2, b, rfl, ha⟩)
    clear hE hE1 c1 c2 ha hb0
    go_enter Tryz.func26, Tryz.ntmps26
    go_wp2_with (go_at_call 39; refine HA.out.mono ?_; rintro e w1 ⟨rfl, hc1, hw1⟩; have HW1 := hid hw1; clear hw1)
    go_ret
    have hb : Below w.heap.size w w1 := (bnew (bid w) _).trans (HW1.out.below (bnew (bid w) _).size (fun j hj e => by have : j = w.heap.size := e; omega))
    exact ⟨_, rfl, HT.out.below hb, hb⟩

set_option maxRecDepth 100000 in
set_option maxHeartbeats 2000000 in
/-- The first fault of n things, asked one by one. -/
theorem first_any {sb : Nat → Addr} {w : World} (hE : Errs sb w) (n : Nat) (hn : n ≤ 1000000) (t : Int) (g : FuncId) (cap : Array Value) (f : Nat → Flt)
    (hr : ∀ (W : World) (x : Value), (callFunc g (#[x] ++ cap)).run Tryz.prog W = .ok (.enter g (#[x] ++ cap)) W)
    (hf : ∀ k, k < n → ∀ W, Below w.heap.size w W → Calls Tryz.prog g (#[.int .i64 (k : Int)] ++ cap) W (ToldRet sb (f k) W)) :
    Calls Tryz.prog 19 #[.int .i64 (n : Int), .int .i64 t, .func (.func g) #[] cap] w (ToldRet sb (firstF n 0 t f) w) := by
  have HE := hid hE
  have HF := hid hf
  clear hE hf
  go_enter Tryz.func19, Tryz.ntmps19
  go_wp2
  go_loopw [10] (fun i wr => ∃ k : Nat, k ≤ n ∧ i = .int .i64 k ∧ firstF n 0 t f = firstF (n - k) k t f ∧ Below w.heap.size w wr) (fun i _ => n - (intOf i).toNat)
  case atStart => exact ⟨0, Nat.zero_le _, rfl, rfl, bid w⟩
  case round =>
    obtain ⟨k, hk, rfl, hff, hb⟩ := hrel
    have HB := hid hb
    have HFF := hid hff
    clear hb hff
    by_cases hlt : k < n
    · have HC := hid (HF.out k hlt wr HB.out)
      have HR := hid hr
      have i1 : ((k : Nat) : Int) ≤ 1000000 := by omega
      have hr1 := hr wr (.int .i64 (k : Int))
      have q1 := run_neq_nils
      clear hr
      go_wp2
      refine HC.out.mono ?_
      rintro e w1 ⟨v, rfl, ht, hb1⟩
      have HB1 := hid hb1
      have HBB := hid (bthen HB.out hb1)
      have HE1 := hid (HE.out.below HBB.out)
      clear hb1 hr1
      cases hfk : f k with
      | none =>
        rw [hfk] at ht
        have hv : v = .nilIface := ht
        subst hv
        have HFK := hid hfk
        clear hfk ht
        go_wp2
        go_roundw
        case rel =>
          refine ⟨k + 1, by omega, by go_num, ?_, HBB.out⟩
          rw [HFF.out, show n - k = (n - (k + 1)) + 1 by omega, firstF_step HFK.out]
        case measure => simp [intOf]; omega
      | some x =>
        rw [hfk] at ht
        obtain ⟨T1, b1, hv⟩ := Tells.err ht
        subst hv
        have HT := hid ht
        have q2 := run_neq_err T1 (.pointer (some b1))
        have HFK := hid hfk
        clear hfk ht
        go_wp2_with (go_at_call 26; refine (placed_any HE1.out HT.out _ _).mono ?_; rintro e w2 ⟨v2, rfl, ht2, hb2⟩; have HT2 := hid ht2; have HB2 := hid hb2; clear ht2 hb2)
        go_ret
        refine ⟨_, rfl, ?_, bthen HBB.out HB2.out⟩
        have h := HT2.out
        rw [HFF.out, show n - k = (n - (k + 1)) + 1 by omega, firstF_hit HFK.out]
        exact h
    · have e : k = n := by omega
      subst e
      clear hlt
      go_wp2
      go_ret
      refine ⟨_, rfl, ?_, HB.out⟩
      rw [HFF.out, Nat.sub_self]
      rfl

end Go.Proofs.YtblalejegjieaaaGreatDoor
