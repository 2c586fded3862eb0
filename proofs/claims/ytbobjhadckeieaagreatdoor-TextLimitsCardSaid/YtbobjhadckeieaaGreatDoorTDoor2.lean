/-
  From a row's condition to what package text finds at package level; an argument that is a slice of rows.
-/
import Derived.Test.YtbobjhadckeieaaGreatDoorTTabs
import Derived.Test.YtbobjhadckeieaaGreatDoorRows
import Derived.WalkKit
import Derived.ProofKit
import Derived.OpenShut
import Derived.ShutString
import Derived.ChangeOld
import Derived.Below
import Derived.LaidMore
import Derived.Lay
import Derived.MakeChecks
import Derived.HandedShaped
import Derived.Handed
import Derived.Shelf.Vars
import Derived.Lib.LaidU8
import Derived.Stop.LaidErr
import Derived.Stop.Joined
import Derived.SevenTiedAt
import Derived.Deep.Slices
import Derived.Deep.Fields
import Derived.ChangeSame
namespace Go.Proofs.YtbobjhadckeieaaGreatDoor
open Go.ChangeShapes Go.WideShapes Go.ChangeAt Go.RowKit Go.Deep
set_option linter.unusedVariables false

section
variable {H : Type} {enc : TypeId × Value → H}
theorem returns_and_shaped {a : Assume} {C : Checked} {os : Os} {f : FuncId} {fn : Func} {s : ChangeSpec} {conds : List PathCond} {apart fresh handsOn again : Bool} {X : World → Array Value → Prop}
    (hX : ∀ (w w' : World) (args : Array Value), w.heap = w'.heap → X w args → X w' args)
    (own : ownKnob C.prog.godebug = none) (started : os.Started) (noInit : C.prog.inits.idxOf? f = none) (hfn : C.prog.funcs[f]? = some fn)
    (witness : ∃ (w : World) (tape : Tape) (i : Input), w.os = os ∧ (w.forCall tape i).Shaped C.prog ∧ i.vars = [] ∧ Input.okWide C.prog (w.forCall tape i) .any w.heap.size f i ∧
      ((s.pre enc C.prog fn conds apart (w.forCall tape i).memory i.args ∧ X (w.forCall tape i).memory i.args) ∧ sizedMet enc C.prog fn (OpenSpec.ofChange s) apart (w.forCall tape i).memory i.args) ∧ a.holds C.prog (lone (Frame.enter C.prog f i.args .normal) [] (w.forCall tape i)))
    (contract : ∀ (W : World) (base : Nat) (args : Array Value) (ds gs : List (DataW H)) (before : List MemPlace),
      (∀ (j : Nat) t v, fn.params[j]? = some t → args[j]? = some v → Value.okWide C.prog W .any base t v) →
      DataW.Whole enc C.prog fn.params.toList s.vars apart W args.toList ds gs before →
      W.ShapedOpen C.prog → X W args →
      Calls C.prog f args W fun e W' => ∃ v, e = .returned v ∧ s.post enc C.prog fn apart fresh handsOn again W args v W') :
    ReturnsInHanded a C os f .any (fun w args => (s.pre enc C.prog fn conds apart w args ∧ X w args) ∧ sizedMet enc C.prog fn (OpenSpec.ofChange s) apart w args) (s.post enc C.prog fn apart fresh handsOn again) := by
  refine returnsInHanded_of_calls own started noInit witness ?_
  intro w tape i _ hsh _ hok hpre hholds
  obtain ⟨_, _, _, fn', hfn', _, _, _, _, hval⟩ := hok
  have e : fn' = fn := Option.some.inj (hfn'.symm.trans hfn)
  subst e
  obtain ⟨⟨⟨ds, gs, before, hw, hc⟩, hx⟩, hz⟩ := hpre
  have hw' := DataW.Whole.of_heap (w' := w.forCall tape i) (by rfl) hw
  refine (contract (w.forCall tape i) w.heap.size i.args ds gs before hval hw' hsh (hX _ _ _ (by rfl) hx)).mono fun e W' ⟨v, he, hp⟩ => ?_
  subst he
  exact ChangeSpec.post_blind hp
end

/-- A shape's four cells, read. -/
theorem shape_cells {P : Program} {w : World} {base : Nat} {sp : Nat → Bool} {held : Bool} {H : Type} {enc : TypeId × Value → H} {fuel : Nat} {t ts ti : TypeId} {f0 f1 f2 f3 : Field} {cs : List Value} {w0 f9 : List UInt8} {o b : Int} {p : List MemPlace}
    (ht : P.underlying t = some (.struct #[f0, f1, f2, f3])) (hs : P.underlying ts = some .string) (hi : P.underlying ti = some (.int .i64)) (h0 : f0.type = ts ∧ f0.offset = 0) (h1 : f1.type = ti ∧ f1.offset = 1) (h2 : f2.type = ti ∧ f2.offset = 2) (h3 : f3.type = ts ∧ f3.offset = 3)
    (cs1 : P.cellsOf ts = 1) (ci1 : P.cellsOf ti = 1) (ct : P.cellsOf t = 4)
    (h : DataW.trod enc P w base sp held fuel t cs = some (.agg [.lit (.string w0), .lit (.int .i64 o), .lit (.int .i64 b), .lit (.string f9)], p)) :
    cs = [.string (bsOf w0), .int .i64 o, .int .i64 b, .string (bsOf f9)] := by
  obtain ⟨xs, n, rfl, hx, hl, hxl, hall⟩ := DataW.trod_struct ht h
  have hxs : xs.map (·.1) = [.lit (.string w0), .lit (.int .i64 o), .lit (.int .i64 b), .lit (.string f9)] := by
    have := congrArg Prod.fst hx
    simpa using this.symm
  rw [ct] at hl
  match cs, hl, hall with
  | [a, b', c, d], _, hall =>
    match xs, hxl, hxs, hall with
    | [x0, x1, x2, x3], _, hxs, hall =>
      simp only [List.map_cons, List.map_nil, List.cons.injEq, and_true] at hxs
      obtain ⟨e0, e1, e2, e3⟩ := hxs
      have g0 := hall 0 f0 rfl
      have g1 := hall 1 f1 rfl
      have g2 := hall 2 f2 rfl
      have g3 := hall 3 f3 rfl
      rw [h0.1, h0.2, cs1] at g0
      rw [h1.1, h1.2, ci1] at g1
      rw [h2.1, h2.2, ci1] at g2
      rw [h3.1, h3.2, cs1] at g3
      obtain ⟨s0, q0, r0, _⟩ := DataW.trod_string hs g0
      obtain ⟨n1, q1, r1, _⟩ := DataW.trod_int hi g1
      obtain ⟨n2, q2, r2, _⟩ := DataW.trod_int hi g2
      obtain ⟨s3, q3, r3, _⟩ := DataW.trod_string hs g3
      have p0 : a = .string s0 := by simpa using q0
      have p1 : b' = .int .i64 n1 := by simpa using q1
      have p2 : c = .int .i64 n2 := by simpa using q2
      have p3 : d = .string s3 := by simpa using q3
      have u0 : x0 = (.lit (.string s0.data.toList), []) := by simpa using r0
      have u1 : x1 = (.lit (.int .i64 n1), []) := by simpa using r1
      have u2 : x2 = (.lit (.int .i64 n2), []) := by simpa using r2
      have u3 : x3 = (.lit (.string s3.data.toList), []) := by simpa using r3
      subst u0 u1 u2 u3 p0 p1 p2 p3
      simp only [DataW.lit.injEq, Lit.string.injEq, Lit.int.injEq, true_and] at e0 e1 e2 e3
      rw [← e0, ← e1, ← e2, ← e3, bsOf_self, bsOf_self]

def shpData {H : Type} (s : Shp) : DataW H := .agg [.lit (.string s.word), .lit (.int .i64 s.op), .lit (.int .i64 s.b), .lit (.string s.fields)]
theorem shapes_read {W : World} (h : Lib.VarReads Tryz.prog W "syncope/text.shapes" (.agg (shps.map shpData))) : ∃ t fr, W.heap[10]? = some (.cells shapesCs t fr) := by
  obtain ⟨g, t, cs, fuel, p, hg, hty, hvar, hd⟩ := h
  obtain rfl : 10 = g := Option.some.inj ((show Tryz.prog.globalNamed "syncope/text.shapes" = some 10 by kernel_rfl).symm.trans hg)
  obtain rfl : 119 = t := Option.some.inj ((show (Tryz.prog.globals[10]?).map (·.type) = some 119 by kernel_rfl).symm.trans hty)
  have hct : Tryz.prog.cellsOf 119 = 92 := by kernel_rfl
  have hce : Tryz.prog.cellsOf 118 = 4 := by kernel_rfl
  have hlen : cs.toList.length = 92 := by
    obtain ⟨xs, m, _, _, hl, _, _⟩ := DataW.trod_array Tryz.underlying119 hd
    rw [hl, hct]
  have hel : ∀ k : Nat, k < 23 → ∀ s, shps[k]? = some s → (cs.toList.drop (k * 4)).take 4 = Shp.cs s := by
    intro k hk s hs
    obtain ⟨fuel', d, q, hdi, he⟩ := Lib.array_elem Tryz.underlying119 hd k hk
    rw [hce] at he
    rw [List.getElem?_map, hs] at hdi
    simp only [Option.map_some, Option.some.injEq] at hdi
    subst hdi
    exact shape_cells Tryz.underlying118 Tryz.underlying9 Tryz.underlying3 ⟨rfl, rfl⟩ ⟨rfl, rfl⟩ ⟨rfl, rfl⟩ ⟨rfl, rfl⟩ (by kernel_rfl) (by kernel_rfl) hce he
  have hcs : cs.toList = shps.flatMap Shp.cs := by
    apply List.ext_getElem?
    intro j
    by_cases hj : j < 92
    · have hk : j / 4 < 23 := by omega
      obtain ⟨s, hs, _⟩ := shps_at (j / 4) hk
      have h1 := hel (j / 4) hk s hs
      have h2 : (cs.toList.drop (j / 4 * 4)).take 4 = ((shps.flatMap Shp.cs).drop (j / 4 * 4)).take 4 := by
        rw [h1]
        have h3 := shapesCs_at (j / 4) hk s hs
        have h4 := congrArg Array.toList h3
        rw [Array.toList_extract] at h4
        simp only [List.extract_eq_take_drop] at h4
        rw [show j / 4 * 4 + 4 - j / 4 * 4 = 4 by omega] at h4
        exact h4.symm
      have h5 := congrArg (·[j % 4]?) h2
      simp only [List.getElem?_take, List.getElem?_drop] at h5
      rw [if_pos (by omega), if_pos (by omega), show j / 4 * 4 + j % 4 = j by omega] at h5
      exact h5
    · rw [List.getElem?_eq_none (by omega), List.getElem?_eq_none (by show shapesCs.size ≤ j; rw [shapesCs_size]; omega)]
  have hv := hvar
  unfold World.var? at hv
  rw [hg] at hv
  simp only [Option.bind_some] at hv
  split at hv
  · rename_i cs' t' fr' hh
    cases hv
    refine ⟨t', fr', ?_⟩
    rw [hh, ← Array.toArray_toList (xs := cs), hcs]
    rfl
  · cases hv

theorem tab_read {P : Program} {W : World} {name : String} {k : IntKind} {zs : List Int} {g : Nat} {t e : TypeId} {n : Nat}
    (hg : P.globalNamed name = some g) (hty : (P.globals[g]?).map (·.type) = some t) (ht : P.underlying t = some (.array n e)) (he : P.underlying e = some (.int k)) (hce : P.cellsOf e = 1) (hct : P.cellsOf t = n)
    (h : Lib.VarReads P W name (Lib.tabData k zs)) : Lib.TabIs P W name k zs := by
  obtain ⟨g', t', cs, fuel, p, hg', ht', hvar, hd⟩ := h
  obtain rfl := Option.some.inj (hg.symm.trans hg')
  obtain rfl := Option.some.inj (hty.symm.trans ht')
  unfold Lib.TabIs
  rw [hvar, ← Lib.cells_of_tab ht he hce hct hd]

end Go.Proofs.YtbobjhadckeieaaGreatDoor
