/-
  TextLimits (5.2), for every two numbers: so many instructions, so many bytes, and not one more. No condition.
-/
import Derived.Test.YtbobjhadckeieaaGreatDoorRows
import Derived.Test.YtbobjhadckeieaaGreatDoorCards
import Derived.Test.YtbobjhadckeieaaGreatDoorTie
import Derived.Test.YtbobjhadckeieaaGreatDoorTLimW
import Derived.Test.YtbobjhadckeieaaGreatDoorLErrs
import Derived.Test.YtbobjhadckeieaaGreatDoorTDoor2
import Derived.LaidHandle
namespace Go.Proofs.YtbobjhadckeieaaGreatDoor.textLimits
open Go.ChangeShapes Go.WideShapes Go.ChangeAt Go.RowKit
set_option linter.unusedVariables false

theorem own : ownKnob Tryz.prog.godebug = none := by kernel_rfl
theorem laidOut : laidOutB Tryz.prog = true := by kernel_rfl
/-- The plain rows of the list. -/
def PL : List (String × DataW Unit) := Rows.textLimitsRow.laid.filter fun x => x.2.handleName?.isNone
theorem hmem : ("errors.errorType", (.iface "internal/reflectlite.rtype" (.agg [.ptr (.lit (.string [101, 114, 114, 111, 114]))]) : DataW Unit)) ∈ Rows.textLimitsRow.laid := List.mem_of_getElem? (show Rows.textLimitsRow.laid[4]? = some _ by kernel_rfl)

set_option maxRecDepth 100000 in
theorem tabs {W : World} (hsh : W.ShapedOpen Tryz.prog) (hL0 : laidMetH Tryz.prog Rows.textLimitsRow.laid W) : Tabs W := by
  have hp : laidMet Tryz.prog PL W := (laid_parts hL0 (List.mem_filter.2 ⟨hmem, rfl⟩)).1
  obtain ⟨rnga, rngc, -, -⟩ := sent_of (n := "strconv.ErrRange") (text := [118, 97, 108, 117, 101, 32, 111, 117, 116, 32, 111, 102, 32, 114, 97, 110, 103, 101]) (r := PL.drop 5) (by have := laidMet_drop 4 hp; rw [show PL.drop 4 = ("strconv.ErrRange", .iface "*errors.errorString" (.ptr (.agg [.lit (.string [118, 97, 108, 117, 101, 32, 111, 117, 116, 32, 111, 102, 32, 114, 97, 110, 103, 101])]))) :: PL.drop 5 by kernel_rfl] at this; exact this) (show Tryz.prog.globalNamed "strconv.ErrRange" = some 16 by kernel_rfl) (by kernel_rfl)
  obtain ⟨syna, sync, -, -⟩ := sent_of (n := "strconv.ErrSyntax") (text := [105, 110, 118, 97, 108, 105, 100, 32, 115, 121, 110, 116, 97, 120]) (r := PL.drop 6) (by have := laidMet_drop 5 hp; rw [show PL.drop 5 = ("strconv.ErrSyntax", .iface "*errors.errorString" (.ptr (.agg [.lit (.string [105, 110, 118, 97, 108, 105, 100, 32, 115, 121, 110, 116, 97, 120])]))) :: PL.drop 6 by kernel_rfl] at this; exact this) (show Tryz.prog.globalNamed "strconv.ErrSyntax" = some 15 by kernel_rfl) (by kernel_rfl)
  obtain ⟨txta, txtc, -, -⟩ := sent_of (n := "syncope/blame.errText") (text := [99, 111, 100, 101, 32, 51]) (r := PL.drop 9) (by have := laidMet_drop 8 hp; rw [show PL.drop 8 = ("syncope/blame.errText", .iface "*errors.errorString" (.ptr (.agg [.lit (.string [99, 111, 100, 101, 32, 51])]))) :: PL.drop 9 by kernel_rfl] at this; exact this) (show Tryz.prog.globalNamed "syncope/blame.errText" = some 2 by kernel_rfl) (by kernel_rfl)
  have m1 : PL[16]? = some ("syncope/text.shapes", .agg (shps.map shpData)) := by kernel_rfl
  have m2 : PL[2]? = some ("internal/strconv.uint64pow10", Lib.tabData .u64 Lib.pow10Tab) := by kernel_rfl
  refine ⟨shapes_read (Lib.laidMet.reads hp (List.mem_of_getElem? m1)), ?_, ⟨_, _, sync⟩, ⟨_, _, rngc⟩, ?_, ⟨_, txtc⟩⟩
  · exact tab_read (show Tryz.prog.globalNamed "internal/strconv.uint64pow10" = some 17 by kernel_rfl) (show (Tryz.prog.globals[17]?).map (·.type) = some 212 by kernel_rfl) Tryz.underlying212 Tryz.underlying188 (by kernel_rfl) (by kernel_rfl) (Lib.laidMet.reads hp (List.mem_of_getElem? m2))
  · exact cell_of_shapedOpen_int hsh (of_decide_eq_true (by kernel_rfl)) (show ((begin Tryz.prog (fun _ _ => 0) default).world.heap[12]?).bind Obj.row? = some (#[.int .i64 0], 3) by kernel_rfl) rfl (by kernel_rfl) (by kernel_rfl) Tryz.underlying3

/-- A world in which all of them lie. -/
noncomputable def holds0 (os : Os) : World := (World.holding Tryz.prog os ⟨#[], #[], []⟩).setCell ⟨11, 0, none⟩ (.iface 124 (.agg #[.pointer (some ⟨20, 47, none⟩)]))
noncomputable def holds (os : Os) : World := (holds0 os).layVars Tryz.prog PL
set_option maxRecDepth 100000 in
theorem met (os : Os) (args : Array Value) : laidMetH Tryz.prog Rows.textLimitsRow.laid ((holds os).forCall (fun _ _ => 0) ⟨#[], args, []⟩).memory := by
  have e1 : (PL.filter fun x => (PL.map (·.1)).contains x.1) = PL := List.filter_eq_self.2 fun x hx => List.contains_iff_mem.2 (List.mem_map.2 ⟨x, hx, rfl⟩)
  have e2 : (PL.filter fun x => !(PL.map (·.1)).contains x.1) = [] := List.filter_eq_nil_iff.2 fun x hx => by rw [List.contains_iff_mem.2 (List.mem_map.2 ⟨x, hx, rfl⟩)]; simp
  have h : laidMet Tryz.prog PL (holds os) := laidMet_layVars (w0 := holds0 os) (PL.map (·.1)) [] (by rw [e1]; rfl) (by rw [e1]; kernel_rfl) (by rw [e1]; kernel_rfl) (by rw [e2]; exact LaidIn.none)
  exact laidMetH_of_parts (h.of_heap (by simp [World.memory, World.forCall, Input.heap])) (by kernel_rfl)

set_option maxRecDepth 100000 in
theorem lifted (os : Os) (started : os.Started) (H : Type) (enc : TypeId × Value → H) :
    ReturnsInHanded {} Tryz.checked os 5 .any (fun w args => (Rows.textLimitsSpec.pre enc Tryz.prog Tryz.f5 [] false w args ∧ laidMetH Tryz.prog Rows.textLimitsRow.laid w) ∧ sizedMet enc Tryz.prog Tryz.f5 (OpenSpec.ofChange Rows.textLimitsSpec) false w args)
      (Rows.textLimitsSpec.post enc Tryz.prog Tryz.f5 false true false false) := by
  refine returns_and_shaped (C := Tryz.checked) (X := fun w _ => laidMetH Tryz.prog Rows.textLimitsRow.laid w) (fun _ _ _ hh h => h.of_heap hh) own started (by kernel_rfl) Tryz.func5
    (ChangeSpec.witness_shaped (enc := enc) (C := Tryz.checked) (os := os) (X := fun w _ => laidMetH Tryz.prog Rows.textLimitsRow.laid w) false (holds os) #[.int .i64 0, .int .i64 0] 8 (World.layVars_os _ _ _) (World.shaped_of_ZipB (by kernel_rfl) (by kernel_rfl)) (by kernel_rfl) (by kernel_rfl) (by kernel_rfl) (met os _)) ?_
  intro W base args ds gs before hval0 hW hsh hL
  have HTB := hid (tabs hsh hL)
  obtain ⟨sb, ⟨hSE, hET⟩, hTX⟩ := errs_of hL hmem 6 (PL.drop 16) (by kernel_rfl)
  have hval : ∀ (j : Nat) t v, Tryz.f5.params[j]? = some t → args[j]? = some v → Value.okWide Tryz.prog W .any base t v := hval0
  have hW' := hW
  obtain ⟨p, q, hA0, hV, rfl, hfz, hnd⟩ := hW
  have hA : DataW.TrodAll enc Tryz.prog W 0 (fun _ => true) true Tryz.f5.params.toList args.toList ds p := hA0
  rw [Tryz.params5] at hA hval
  obtain ⟨v0, vs0, d0, ds0, p0, q0, hargs, rfl, rfl, h0, r0⟩ := trodAll_cons hA
  obtain ⟨v1, vs1, d1, ds1, p1, q1, rfl, rfl, rfl, h1, r1⟩ := trodAll_cons r0
  obtain ⟨rfl, rfl, rfl⟩ := trodAll_nil r1
  obtain rfl : args = #[v0, v1] := by cases args; simp_all
  obtain ⟨rfl, rfl⟩ := trodVars_none hV
  have k0 := h0
  have lt0 : ∀ x ∈ p0, x.block < W.heap.size := by obtain ⟨m, hm⟩ := k0; exact DataW.trod_lt m _ _ _ hm
  have k1 := h1
  have lt1 : ∀ x ∈ p1, x.block < W.heap.size := by obtain ⟨m, hm⟩ := k1; exact DataW.trod_lt m _ _ _ hm
  obtain ⟨a0, rfl, _, _, w0⟩ := open_int Tryz.underlying3 (hval 0 3 v0 rfl rfl) h0
  obtain ⟨a1, rfl, _, _, w1⟩ := open_int Tryz.underlying3 (hval 1 3 v1 rfl rfl) h1
  clear hA0 hval0
  refine (lim_walk a0 a1 W HTB.out hSE hET).mono fun e W' ⟨he, bel⟩ => ?_
  subst he
  exact ⟨_, rfl, _, _, _, [], _, [], hW', trodAll_mk1 (shut_bool Tryz.underlying4 _), (trodAll_cons_mk (Below.trod laidOut (by kernel_rfl) (of_decide_eq_true (by kernel_rfl)) k0 bel lt0) (trodAll_cons_mk (Below.trod laidOut (by kernel_rfl) (of_decide_eq_true (by kernel_rfl)) k1 bel lt1) trodAll_mk0)), rfl, bel.frame _, fun h => by cases h⟩

theorem over : Rows.textLimitsRow.holds Tryz.pinned (OpenSpec.ofChange Rows.textLimitsSpec) :=
  OpenClaim.holds_of_wide 5 Tryz.f5 rfl rfl rfl rfl rfl rfl rfl ⟨rfl, rfl, rfl, rfl, rfl⟩ rfl rfl rfl rfl rfl (by kernel_rfl) Tryz.func5 (by kernel_rfl)
    (of_decide_eq_true (by kernel_rfl)) (by unfold Func.isWrapper; first | (rw [if_pos (by decide +kernel)]; kernel_rfl) | (rw [if_neg (by decide +kernel)]; exact ⟨rfl, rfl⟩))
    (fun os started H enc _ => lifted os started H enc)

theorem said : Rows.TextLimitsSaid := over

theorem plain (f : FuncId) (fn : Func) (hf : Tryz.pinned.checked.prog.funcNamed "syncope/syncopelaw5.TextLimits" = some f) (hfn : Tryz.pinned.checked.prog.funcs[f]? = some fn) :
    true = Tryz.pinned.checked.prog.looks [] ∧ ∀ (j : Nat) t, fn.params[j]? = some t → Tryz.pinned.checked.prog.wantsStandIn t = false := by
  obtain rfl : f = 5 := Option.some.inj ((show Tryz.prog.funcNamed "syncope/syncopelaw5.TextLimits" = some 5 by kernel_rfl).symm.trans hf) |>.symm
  obtain rfl : fn = Tryz.f5 := (Option.some.inj (Tryz.func5.symm.trans hfn)).symm
  refine ⟨by kernel_rfl, fun j t ht => ?_⟩
  rw [Tryz.params5] at ht
  have hm := Array.mem_of_getElem? ht
  have ht' : t = 3 := by
    simp at hm
    omega
  subst ht'
  exact (show Tryz.prog.wantsStandIn 3 = false by kernel_rfl)

/-- THE CARD. -/
theorem proved : Rows.TextLimitsCardSaid :=
  Claim7.holds_tied_plain_at .later [] _ _ _ _ said (fun _ h => by cases h) (by kernel_rfl) (fun _ h => by cases h) textLimits_row_tie rfl ⟨rfl, rfl⟩ (by kernel_rfl) rfl plain (by kernel_rfl)
#print axioms proved
end Go.Proofs.YtbobjhadckeieaaGreatDoor.textLimits
