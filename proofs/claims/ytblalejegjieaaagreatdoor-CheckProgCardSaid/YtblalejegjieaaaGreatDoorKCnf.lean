/-
  What lies at package level: the type that errors.As asks for. What lies at package level, of which errors are made, out of a row's list. Arguments of layer 6, opened to their cells: a slice of locks. Layer 6's asks; the document's own answer for an empty program. Arguments of layer 6, opened to their cells: eight numbers; rows of numbers. Few. CheckConfig, walked. CheckConfig, walked.
-/
import Derived.Test.YtblalejegjieaaaGreatDoorLoneAs
import Derived.LaidHandle
import Derived.LaidLaws
import Derived.Test.YtblalejegjieaaaGreatDoorKFault
import Derived.Stop.LaidErr
import Derived.Test.YtblalejegjieaaaGreatDoorKCfg
import Derived.ChangeOld
import Derived.ProofKit
import Derived.Deep.Slices
import Derived.Deep.Fields
import Derived.OpenShut
import Derived.Test.YtblalejegjieaaaGreatDoorKRef1
import Derived.Test.YtblalejegjieaaaGreatDoorKTold
import Derived.Test.YtblalejegjieaaaGreatDoorRMates
import Derived.Test.YtblalejegjieaaaGreatDoorKBuild
import Derived.Test.YtblalejegjieaaaGreatDoorArr
import Derived.BigRegion
import Derived.OrdersHeld
import Derived.Laws.MakeOwn
import Derived.Deep.DeepCutAuto
namespace Go.Proofs.YtblalejegjieaaaGreatDoor
open Go.RowKit Go.ChangeShapes Go.WideShapes
set_option linter.unusedVariables false

theorem laid_et : Tryz.prog.globalNamed "errors.errorType" = some 10 := by kernel_rfl
theorem laid_rt : (Tryz.prog.cutTypes.find? (·.1 == "internal/reflectlite.rtype")).map (·.2) = some 128 := by kernel_rfl
theorem laid_oneRow : ((List.range Tryz.prog.types.size).filter fun t => Tryz.prog.rowNamed t [101, 114, 114, 111, 114]) = [46] := by kernel_rfl

/-- The plain rows, and the rows of types, where there are some. -/
theorem laid_parts {W : World} {l : List (String × DataW Unit)} {x : String × DataW Unit} (h : laidMetH Tryz.prog l W) (hm : x ∈ l.filter (fun x => x.2.handleName?.isSome)) :
    laidMet Tryz.prog (l.filter (fun x => x.2.handleName?.isNone)) W ∧ handlesMet Tryz.prog (l.filter (fun x => x.2.handleName?.isSome)) W := by
  unfold laidMetH at h
  generalize l.filter (fun x => x.2.handleName?.isSome) = hs at h hm ⊢
  cases hs with
  | nil => cases hm
  | cons a r => exact h

theorem errType_of {W : World} {l : List (String × DataW Unit)} (h : laidMetH Tryz.prog l W) (hm : ("errors.errorType", (.iface "internal/reflectlite.rtype" (.agg [.ptr (.lit (.string [101, 114, 114, 111, 114]))]) : DataW Unit)) ∈ l) : ErrType W := by
  obtain ⟨name, u, ty, e1, e2, e3, e4, e5⟩ := (laid_parts h (List.mem_filter.2 ⟨hm, rfl⟩)).2 _ (List.mem_filter.2 ⟨hm, rfl⟩)
  have en : name = [101, 114, 114, 111, 114] := (Option.some.inj e1).symm
  subst en
  obtain rfl := Option.some.inj (laid_rt.symm.trans e2)
  have hm : ty ∈ (List.range Tryz.prog.types.size).filter fun t => Tryz.prog.rowNamed t [101, 114, 114, 111, 114] := List.mem_filter.2 ⟨List.mem_range.2 e3, e4⟩
  rw [laid_oneRow] at hm
  obtain rfl := List.mem_singleton.1 hm
  have hh : typeHandle Tryz.prog 46 = .pointer (some ⟨11, 46, none⟩) := by kernel_rfl
  rw [hh] at e5
  simpa [ErrType] using World.var?_cell laid_et e5 0

end Go.Proofs.YtblalejegjieaaaGreatDoor

namespace Go.Proofs.YtblalejegjieaaaGreatDoor
open Go.RowKit Go.ChangeShapes Go.WideShapes
set_option linter.unusedVariables false

theorem laidMet_drop {P : Program} {W : World} : ∀ (k : Nat) {l : List (String × DataW Unit)}, laidMet P l W → laidMet P (l.drop k) W
  | 0, _, h => h
  | k + 1, [], h => h
  | k + 1, x :: r, h => laidMet_drop k (l := r) (laidMet.tail h)

theorem row_err (u : TypeId) (h : Tryz.prog.typeName? 3 u = some "*errors.errorString") : u = 149 := by
  have star : "*" ++ "errors.errorString" = "*errors.errorString" := by decide
  exact typeName_ptr_named (nm := "errors.errorString") (by rw [star]; kernel_rfl) (by kernel_rfl) (by decide) u (by rw [star]; exact h)

set_option maxRecDepth 100000 in
/-- One of the codes' errors: where it lies, what it says. -/
theorem sent_of {n : String} {text : List UInt8} {r : List (String × DataW Unit)} {W : World} {g : Nat} (h : laidMet Tryz.prog ((n, .iface "*errors.errorString" (.ptr (.agg [.lit (.string text)]))) :: r) W)
    (hg : Tryz.prog.globalNamed n = some g) (ht : (Tryz.prog.globals[g]?).map (·.type) = some 46) :
    ∃ a : Addr, W.cell? ⟨g, 0, none⟩ = some (errV 149 a) ∧ ErrAt W 149 a ∧ ∃ s : ByteArray, W.cell? a = some (.string s) ∧ s.data.toList = text := by
  obtain ⟨ps, hrest, _, hrows⟩ := h
  obtain ⟨g', ty, cs, fuel, p, q, e1, e2, hv, hd, _, rfl⟩ := hrest
  obtain rfl := Option.some.inj (hg.symm.trans e1)
  obtain rfl := Option.some.inj (ht.symm.trans e2)
  have hw : ∀ u v, cs.toList = [.iface u v] → Value.okWide Tryz.prog W .any 0 u v := fun u v hc => by
    have hc' : cs = #[.iface u v] := by rw [← Array.toArray_toList (xs := cs), hc]
    subst hc'
    refine (hrows g 0 (by simp [MemPlace.row])).2 u v ?_
    simpa using World.var?_cell hg hv 0
  obtain ⟨a, s, hc, h1, h2, _, rfl⟩ := errorString_of_trod Tryz.underlying46 row_err Tryz.underlying149 Tryz.underlying171 rfl rfl Tryz.underlying9 (by kernel_rfl) (by kernel_rfl) hd hw
  have hc' : cs = #[.iface 149 (.pointer (some a))] := by rw [← Array.toArray_toList (xs := cs), hc]
  subst hc'
  obtain ⟨c, t, hb⟩ := (hrows a.block a.off (by simp [MemPlace.row])).1
  exact ⟨a, by simpa using World.var?_cell hg hv 0, ⟨.inr rfl, c, t, hb⟩, s, h1, h2⟩

/-- What code k's error says. -/
def codeText (k : Nat) : List UInt8 := [99, 111, 100, 101, 32] ++ (if k = 10 then [49, 48] else [48 + UInt8.ofNat k])
theorem codeText_apart : ∀ j k, 1 ≤ j → j ≤ 10 → 1 ≤ k → k ≤ 10 → codeText j = codeText k → j = k := by
  have key : ∀ j : Fin 11, ∀ k : Fin 11, codeText j.1 = codeText k.1 → 1 ≤ j.1 → 1 ≤ k.1 → j = k := by decide
  intro j k h1 h2 h3 h4 h
  exact congrArg Fin.val (key ⟨j, by omega⟩ ⟨k, by omega⟩ h h1 h3)

@[reducible] def sentD (k : Nat) : DataW Unit := .iface "*errors.errorString" (.ptr (.agg [.lit (.string (codeText k))]))
set_option maxRecDepth 100000 in
theorem errs_of {W : World} {l : List (String × DataW Unit)} (h : laidMetH Tryz.prog l W) (hm : ("errors.errorType", (.iface "internal/reflectlite.rtype" (.agg [.ptr (.lit (.string [101, 114, 114, 111, 114]))]) : DataW Unit)) ∈ l) (k : Nat) (r : List (String × DataW Unit))
    (hk : (l.filter (fun x => x.2.handleName?.isNone)).drop k = ("syncope/blame.errArg", sentD 1) :: ("syncope/blame.errRange", sentD 2) :: ("syncope/blame.errText", sentD 3) :: ("syncope/blame.errLarge", sentD 4) :: ("syncope/blame.errBlock", sentD 5) :: ("syncope/blame.errLock", sentD 6) :: ("syncope/blame.errMode", sentD 7) :: ("syncope/blame.errOrder", sentD 8) :: ("syncope/blame.errCond", sentD 9) :: ("syncope/blame.errState", sentD 10) :: r) :
    ∃ sb, Errs sb W ∧ ∀ j, 1 ≤ j → j ≤ 10 → ∃ s : ByteArray, W.cell? (sb j) = some (.string s) ∧ s.data.toList = codeText j := by
  have hp := laidMet_drop k (laid_parts h (List.mem_filter.2 ⟨hm, rfl⟩)).1
  rw [hk] at hp
  obtain ⟨a1, c1, e1, s1, t1, x1⟩ := sent_of hp (show Tryz.prog.globalNamed "syncope/blame.errArg" = some 0 by kernel_rfl) (by kernel_rfl)
  obtain ⟨a2, c2, e2, s2, t2, x2⟩ := sent_of hp.tail (show Tryz.prog.globalNamed "syncope/blame.errRange" = some 1 by kernel_rfl) (by kernel_rfl)
  obtain ⟨a3, c3, e3, s3, t3, x3⟩ := sent_of hp.tail.tail (show Tryz.prog.globalNamed "syncope/blame.errText" = some 2 by kernel_rfl) (by kernel_rfl)
  obtain ⟨a4, c4, e4, s4, t4, x4⟩ := sent_of hp.tail.tail.tail (show Tryz.prog.globalNamed "syncope/blame.errLarge" = some 3 by kernel_rfl) (by kernel_rfl)
  obtain ⟨a5, c5, e5, s5, t5, x5⟩ := sent_of hp.tail.tail.tail.tail (show Tryz.prog.globalNamed "syncope/blame.errBlock" = some 4 by kernel_rfl) (by kernel_rfl)
  obtain ⟨a6, c6, e6, s6, t6, x6⟩ := sent_of hp.tail.tail.tail.tail.tail (show Tryz.prog.globalNamed "syncope/blame.errLock" = some 5 by kernel_rfl) (by kernel_rfl)
  obtain ⟨a7, c7, e7, s7, t7, x7⟩ := sent_of hp.tail.tail.tail.tail.tail.tail (show Tryz.prog.globalNamed "syncope/blame.errMode" = some 6 by kernel_rfl) (by kernel_rfl)
  obtain ⟨a8, c8, e8, s8, t8, x8⟩ := sent_of hp.tail.tail.tail.tail.tail.tail.tail (show Tryz.prog.globalNamed "syncope/blame.errOrder" = some 7 by kernel_rfl) (by kernel_rfl)
  obtain ⟨a9, c9, e9, s9, t9, x9⟩ := sent_of hp.tail.tail.tail.tail.tail.tail.tail.tail (show Tryz.prog.globalNamed "syncope/blame.errCond" = some 8 by kernel_rfl) (by kernel_rfl)
  obtain ⟨a10, c10, e10, s10, t10, x10⟩ := sent_of hp.tail.tail.tail.tail.tail.tail.tail.tail.tail (show Tryz.prog.globalNamed "syncope/blame.errState" = some 9 by kernel_rfl) (by kernel_rfl)
  let sb : Nat → Addr := fun k => match k with
    | 1 => a1 | 2 => a2 | 3 => a3 | 4 => a4 | 5 => a5 | 6 => a6 | 7 => a7 | 8 => a8 | 9 => a9 | _ => a10
  have hs : ∀ j, 1 ≤ j → j ≤ 10 → ErrAt W 149 (sb j) ∧ ∃ s : ByteArray, W.cell? (sb j) = some (.string s) ∧ s.data.toList = codeText j := by
    intro j h1 h2
    have : j = 1 ∨ j = 2 ∨ j = 3 ∨ j = 4 ∨ j = 5 ∨ j = 6 ∨ j = 7 ∨ j = 8 ∨ j = 9 ∨ j = 10 := by omega
    rcases this with rfl | rfl | rfl | rfl | rfl | rfl | rfl | rfl | rfl | rfl
    · exact ⟨e1, s1, t1, x1⟩
    · exact ⟨e2, s2, t2, x2⟩
    · exact ⟨e3, s3, t3, x3⟩
    · exact ⟨e4, s4, t4, x4⟩
    · exact ⟨e5, s5, t5, x5⟩
    · exact ⟨e6, s6, t6, x6⟩
    · exact ⟨e7, s7, t7, x7⟩
    · exact ⟨e8, s8, t8, x8⟩
    · exact ⟨e9, s9, t9, x9⟩
    · exact ⟨e10, s10, t10, x10⟩
  have b1 := World.block_lt_of_cell? W _ c1
  have b2 := World.block_lt_of_cell? W _ c2
  have b3 := World.block_lt_of_cell? W _ c3
  have b10 := World.block_lt_of_cell? W _ c10
  have b9 := World.block_lt_of_cell? W _ c9
  have b5 := World.block_lt_of_cell? W _ c5
  have bE := World.block_lt_of_cell? W _ (errType_of h hm)
  dsimp only at b1 b2 b3 b5 b9 b10 bE
  refine ⟨sb, ⟨⟨⟨c1, c2, c3, c4, c5, c6, c7, c8, c9, c10⟩, fun j h1 h2 => (hs j h1 h2).1, fun j k j1 j2 k1 k2 he => ?_, by omega⟩, errType_of h hm⟩, fun j h1 h2 => (hs j h1 h2).2⟩
  obtain ⟨s, q1, q2⟩ := (hs j j1 j2).2
  obtain ⟨s', q3, q4⟩ := (hs k k1 k2).2
  rw [he, q3] at q1
  have : s' = s := by simpa using q1
  subst this
  exact codeText_apart j k j1 j2 k1 k2 (by rw [← q2, ← q4])

end Go.Proofs.YtblalejegjieaaaGreatDoor

namespace Go.Proofs.YtblalejegjieaaaGreatDoor
open Go.ChangeShapes Go.WideShapes Go.ChangeAt Go.RowKit Go.Deep
set_option linter.unusedVariables false

theorem wf_bounds {n : Int} (h : (Lit.int .i64 n).wf = true) : -9223372036854775808 ≤ n ∧ n ≤ 9223372036854775807 := by
  simpa [Lit.wf, IntKind.min, IntKind.max, IntKind.signed, IntKind.bits] using h

set_option maxRecDepth 100000 in
/-- An argument that is a slice of locks: its cells. -/
theorem open_locks {H : Type} {enc : TypeId × Value → H} {W : World} {base : Nat} {sp : Nat → Bool} {held : Bool} {v : Value} {d : DataW H} {p : List MemPlace} {b0 : Nat} (hv : Value.okWide Tryz.prog W .any b0 30 v)
    (h : DataW.Trod enc Tryz.prog W base sp held 30 v d p) : ∃ a len cap ls, v = .slice a len cap ∧ LkRow W a len ls ∧ len ≤ maxLen := by
  obtain ⟨a, len, cap, rfl⟩ := okWide_slice Tryz.underlying30 hv
  obtain ⟨fuel, hf⟩ := h
  have hce : Tryz.prog.cellsOf 50 = 3 := by kernel_rfl
  have hc1 : Tryz.prog.cellsOf 3 = 1 := by kernel_rfl
  rcases open_slice Tryz.underlying30 hf with ⟨hcs, _⟩ | ⟨x, l, c, m, n, D, Pl, hcs, _, hl, hm, hmm, _, hel⟩
  · simp [Value.cells] at hcs
    obtain ⟨rfl, rfl, rfl⟩ := hcs
    exact ⟨none, 0, 0, [], rfl, ⟨rfl, .inl rfl, by simp⟩, Nat.zero_le _⟩
  · simp [Value.cells] at hcs
    obtain ⟨rfl, rfl, rfl⟩ := hcs
    have hlm : len ≤ m := by rw [hmm]; split <;> omega
    have key : ∀ i, i < len → ∃ r : Lk, r.Wf ∧ (W.cell? (x.add (i * 3)) = some (.int .i64 r.kind) ∧ W.cell? (x.add (i * 3 + 1)) = some (.int .i64 r.fr) ∧ W.cell? (x.add (i * 3 + 2)) = some (.int .i64 r.len)) := by
      intro i hi
      obtain ⟨cs', hc, ht'⟩ := hel i (by omega)
      rw [hce] at hc
      obtain ⟨ys, n', _, _, hlen, hyl, hfl⟩ := DataW.trod_struct Tryz.underlying50 ht'
      obtain ⟨_, hcl, hat⟩ := World.cells?_some hc
      match cs', hcl, hat, hfl with
      | [e0, e1, e2], _, hat, hfl =>
        match ys, hyl, hfl with
        | [y0, y1, y2], _, hfl =>
          have g0 := hfl 0 _ rfl
          have g1 := hfl 1 _ rfl
          have g2 := hfl 2 _ rfl
          change DataW.trod enc Tryz.prog W base sp held n' 3 ([e0, e1, e2].take (Tryz.prog.cellsOf 3)) = some y0 at g0
          change DataW.trod enc Tryz.prog W base sp held n' 3 ([e1, e2].take (Tryz.prog.cellsOf 3)) = some y1 at g1
          change DataW.trod enc Tryz.prog W base sp held n' 3 ([e2].take (Tryz.prog.cellsOf 3)) = some y2 at g2
          rw [hc1] at g0 g1 g2
          obtain ⟨z0, q0, _, w0⟩ := DataW.trod_int Tryz.underlying3 g0
          obtain ⟨z1, q1, _, w1⟩ := DataW.trod_int Tryz.underlying3 g1
          obtain ⟨z2, q2, _, w2⟩ := DataW.trod_int Tryz.underlying3 g2
          simp at q0 q1 q2
          subst q0 q1 q2
          have b1 := wf_bounds w1
          have b2 := wf_bounds w2
          have ad : ∀ j, x.add (i * 3 + j) = (x.add (i * 3)).add j := fun j => by rw [add_add]
          have ad0 : x.add (i * 3) = (x.add (i * 3)).add 0 := by rw [add_add, Nat.add_zero]
          refine ⟨⟨z0, z1, z2⟩, ⟨b1.1, b1.2, b2.1, b2.2⟩, ?_, ?_, ?_⟩
          · rw [ad0, hat 0 (by omega)]; rfl
          · rw [ad, hat 1 (by omega)]; rfl
          · rw [ad, hat 2 (by omega)]; rfl
    have list : ∀ n, n ≤ len → ∃ rs : List Lk, rs.length = n ∧ (∀ r ∈ rs, r.Wf) ∧ ∀ (k : Nat) (r : Lk), rs[k]? = some r → W.cell? (x.add (k * 3)) = some (.int .i64 r.kind) ∧ W.cell? (x.add (k * 3 + 1)) = some (.int .i64 r.fr) ∧ W.cell? (x.add (k * 3 + 2)) = some (.int .i64 r.len) := by
      intro n
      induction n with
      | zero => intro _; exact ⟨[], rfl, by simp, fun k r h => by simp at h⟩
      | succ n ih =>
        intro hn
        obtain ⟨rs, h1, h2, h3⟩ := ih (by omega)
        obtain ⟨r, hr, hc⟩ := key n (by omega)
        refine ⟨rs ++ [r], by simp [h1], fun q hq => ?_, fun k q hq => ?_⟩
        · rcases List.mem_append.1 hq with hq | hq
          · exact h2 q hq
          · simp at hq; subst hq; exact hr
        · by_cases hk : k < rs.length
          · rw [List.getElem?_append_left hk] at hq
            exact h3 k q hq
          · have hkl := (List.getElem?_eq_some_iff.1 hq).1
            simp at hkl
            have hkn : k = n := by omega
            subst hkn
            rw [List.getElem?_append_right (by omega)] at hq
            simp [h1] at hq
            subst hq
            exact hc
    obtain ⟨rs, h1, h2, h3⟩ := list len (Nat.le_refl _)
    refine ⟨some x, len, cap, rs, rfl, ⟨h1, ?_, h2⟩, Nat.le_trans hl hm⟩
    by_cases h0 : len = 0
    · exact .inl h0
    · obtain ⟨b, off, spn⟩ := x
      have hr0 : rs[0]? = some rs[0] := List.getElem?_eq_getElem (by omega)
      have hz := (h3 0 _ hr0).1
      have hsp : spn = none := by
        cases spn with
        | none => rfl
        | some q =>
          exfalso
          rw [Nat.zero_mul, add_zero] at hz
          simp only [World.cell?] at hz
          split at hz <;> simp at hz
      subst hsp
      have hlt := World.block_lt_of_cell? W _ hz
      rw [block_add] at hlt
      refine .inr ⟨b, off, rfl, hlt, fun k r hk => ?_⟩
      obtain ⟨k0, k1, k2⟩ := h3 k r hk
      rw [add_at] at k0 k1 k2
      exact ⟨k0, by rw [Nat.add_assoc]; exact k1, by rw [Nat.add_assoc]; exact k2⟩

end Go.Proofs.YtblalejegjieaaaGreatDoor

namespace Go.Proofs.YtblalejegjieaaaGreatDoor
open Go.RowKit
set_option linter.unusedVariables false

theorem placeF_placed (f : Flt) (t p : Int) : placeF f t p = none ∨ ∃ x t' p', placeF f t p = some (x, some (t', p')) := by
  match f with
  | none => exact .inl rfl
  | some (c, none) => exact .inr ⟨c, t, p, rfl⟩
  | some (c, some (a, b)) => exact .inr ⟨c, a, b, rfl⟩
theorem Trail_tells {w : World} {sb : Nat → Addr} (hE : Errs sb w) {c : Nat} {t p : Int} {v : Value} (h : Tells sb w v (some (c, some (t, p)))) :
    Calls Tryz.prog 16 #[v] w fun e w' => ∃ a cc, e = .returned (.slice a 1 cc) ∧ Below w.heap.size w w' := by
  obtain ⟨h1, h2, b, rfl, ha⟩ := h
  have := Trail_chain (ks := [(76, ⟨b, 0, none⟩), (149, sb c)]) (chain2 hE.sents h1 h2 ha) hE.et (fun _ => p) (fun j hj => by
    have : j = 0 := by simp at hj; omega
    subst this
    exact ⟨b, t, _, rfl, ha⟩)
  refine this.mono ?_
  rintro e w' ⟨lv, rfl, hr, hb⟩
  rcases row_form hr with ⟨_, h⟩ | ⟨g, cap, h⟩
  · simp at h
  · exact ⟨_, cap, congrArg _ h, hb⟩

set_option maxRecDepth 100000 in
set_option maxHeartbeats 4000000 in
theorem asks_any {sb : Nat → Addr} (c : Cfg) (s : CV) (w : World) (hE : Errs sb w) (hc : CfgIn w c s) (hP : ∀ t : Nat, t < s.np → ∀ W, Below w.heap.size w W → Calls Tryz.prog 32 #[c.v s, .int .i64 (t : Int)] W (ProgRet (progF c s t) (t : Int) W)) :
    Calls Tryz.prog 8 #[c.v s] w fun e w' => e = .returned (.bool true) ∧ Below w.heap.size w w' := by
  have HE := hid hE
  have HX := hid (CfgBox.new w c s)
  have HB0 := hid (bnew (bid w) (.cells (c.cs s) 34))
  have HC1 := hid (fun W hW => Config_any (sb := sb) c s W (hE.below hW) (hc.below hW))
  have HC2 := hid (fun W hW => refConfig_any c s W (hc.below hW) (fun t ht W' hW' => hP t ht W' (bthen hW hW')))
  have hpl : configF c s = none ∨ ∃ x t p, configF c s = some (x, some (t, p)) := placeF_placed _ _ _
  generalize configF c s = F at HC1 HC2 hpl
  clear hE hc hP
  go_enter Tryz.func8, Tryz.ntmps8
  obtain ⟨k0, k1, k2, k3, k4, k5, k6, k7, k8, k9, k10, k11⟩ := cfg_facts HX.out
  go_upto_region 2 with (go_at_call 11; (with_reducible refine (HC1.out _ HB0.out).mono ?_); rintro e w1 ⟨v, rfl, ht, hb1⟩; have HT := hid ht; have HB1 := hid (bthen HB0.out hb1); have HX1 := hid (HX.out.below hb1); clear ht hb1)
  clear k0 k1 k2 k3 k4 k5 k6 k7 k8 k9 k10 k11
  obtain ⟨k0, k1, k2, k3, k4, k5, k6, k7, k8, k9, k10, k11⟩ := cfg_facts HX1.out
  go_upto_region 3 with (go_at_call 14; (with_reducible refine (HC2.out _ HB1.out).mono ?_); rintro e w2 ⟨rfl, hb2⟩; have HT2 := hid (HT.out.below hb2); have HB2 := hid (bthen HB1.out hb2); clear hb2)
  clear k0 k1 k2 k3 k4 k5 k6 k7 k8 k9 k10 k11 HC1 HC2 HX HX1 HT
  rcases hpl with rfl | ⟨x, t, p, rfl⟩
  · have hv : v = .nilIface := HT2.out
    subst hv
    have q1 := run_eql_nils
    dsimp only [tripF]
    go_wp2
    go_ret
    exact ⟨rfl, HB2.out⟩
  · obtain ⟨T, b, hv⟩ := Tells.err HT2.out
    have hx : 1 ≤ x := HT2.out.1
    have hx1 : ¬ (x : Int) = 0 := by omega
    subst hv
    have q1 := run_neq_err T (.pointer (some b))
    dsimp only [tripF]
    go_wp2_with (first | (go_at_call 15; go_must (refine (Where_tells (HE.out.below HB2.out) HT2.out).mono ?_; rintro e w3 ⟨rfl, hb3⟩; have HT3 := hid (HT2.out.below hb3); have HB3 := hid (bthen HB2.out hb3); clear hb3)) | (go_at_call 12; go_must (refine (Code_tells (HE.out.below HB3.out) HT3.out).mono ?_; rintro e w4 ⟨rfl, hb4⟩; have HT4 := hid (HT3.out.below hb4); have HB4 := hid (bthen HB3.out hb4); clear hb4)) | (go_at_call 16; go_must (refine (Trail_tells (HE.out.below HB4.out) HT4.out).mono ?_; rintro e w5 ⟨a5, c5, rfl, hb5⟩; have HB5 := hid (bthen HB4.out hb5); clear hb5)))
    go_ret
    exact ⟨rfl, HB5.out⟩

set_option maxRecDepth 100000 in
set_option maxHeartbeats 4000000 in
theorem refProg_empty (c : Cfg) (s : CV) (t : Nat) (w : World) (hc : CfgIn w c s) (ht : t < s.np) (h0 : c.progs[t]? = some []) :
    Calls Tryz.prog 32 #[c.v s, .int .i64 (t : Int)] w (ProgRet (progF c s t) (t : Int) w) := by
  have hF : progF c s t = none := by
    unfold progF
    have e : c.progs.getD t [] = [] := by simp [List.getD, h0]
    rw [e]
    rfl
  have HF := hid hF
  have HX := hid (CfgBox.new w c s)
  have HB0 := hid (bnew (bid w) (.cells (c.cs s) 34))
  have hnp := hc.fp
  obtain ⟨b, off, ap, cp, p, hae, hbl, hp, hcell, _, _, hrow⟩ := hc.progs.at ht
  obtain rfl : p = [] := Option.some.inj (hp.symm.trans h0)
  have HM := hid (fun (W : World) (hW : Below w.heap.size w W) => refMates_any ap 0 cp [] W (hrow.below hW) (by decide))
  have hc1 := (HB0.out.cell (p := ⟨b, off + t, none⟩) hbl).trans hcell
  have i0 : (0 : Int) ≤ (t : Int) := by omega
  have i1 : (t : Int) < ((s.np : Nat) : Int) := by omega
  have HMV : Hid ((matesOf (opsOf [])).2 = -1 ∧ (matesOf (opsOf [])).1.length = 0) := hid ⟨rfl, rfl⟩
  clear hc hF h0 hp hcell hrow
  go_enter Tryz.func32, Tryz.ntmps32
  obtain ⟨k0, k1, k2, k3, k4, k5, k6, k7, k8, k9, k10, k11⟩ := cfg_facts HX.out
  rw [hae] at k11
  clear hae
  simp only [List.length_nil] at hc1
  go_wp2_with fail
  refine wp_loop_rounds 1 ?_
  rw [rounds_succ]
  go_wp2_with (go_at_call 52; (with_reducible refine (HM.out _ HB0.out).mono ?_); rintro e w1 ⟨am, cm, rfl, _, _, hb1⟩; rw [HMV.out.1, HMV.out.2]; have HB1 := hid (bthen HB0.out hb1); clear hb1)
  refine wp_loop_rounds 1 ?_
  rw [rounds_succ]
  go_wp2
  go_ret2
  exact ⟨0, 0, rfl, .inl ⟨HF.out, rfl⟩, bnew HB1.out _⟩

end Go.Proofs.YtblalejegjieaaaGreatDoor

namespace Go.Proofs.YtblalejegjieaaaGreatDoor
open Go.RowKit Go.ChangeShapes Go.WideShapes Go.ChangeAt Go.Deep
set_option linter.unusedVariables false

set_option maxRecDepth 100000 in
theorem open_k8 {H : Type} {enc : TypeId × Value → H} {w : World} {base : Nat} {spare : Nat → Bool} {held : Bool} {r : Reach} {b0 : Nat} {v : Value} {d : DataW H} {p : List MemPlace}
    (hv : Value.okWide Tryz.prog w r b0 22 v) (h : DataW.Trod enc Tryz.prog w base spare held 22 v d p) : ∃ k : K8, v = k.v ∧ ((-9223372036854775808 ≤ k.k0 ∧ k.k0 ≤ 9223372036854775807) ∧ (-9223372036854775808 ≤ k.k1 ∧ k.k1 ≤ 9223372036854775807) ∧ (-9223372036854775808 ≤ k.k2 ∧ k.k2 ≤ 9223372036854775807) ∧ (-9223372036854775808 ≤ k.k3 ∧ k.k3 ≤ 9223372036854775807) ∧ (-9223372036854775808 ≤ k.k4 ∧ k.k4 ≤ 9223372036854775807) ∧ (-9223372036854775808 ≤ k.k5 ∧ k.k5 ≤ 9223372036854775807) ∧ (-9223372036854775808 ≤ k.k6 ∧ k.k6 ≤ 9223372036854775807) ∧ (-9223372036854775808 ≤ k.k7 ∧ k.k7 ≤ 9223372036854775807)) := by
  obtain ⟨zs, h1, rfl, hw⟩ := open_arr_ints Tryz.underlying22 Tryz.underlying3 (by kernel_rfl) (by kernel_rfl) hv h
  have hb : ∀ z ∈ zs, -9223372036854775808 ≤ z ∧ z ≤ 9223372036854775807 := fun z hz => by
    have := hw z hz
    simpa [Lit.wf, IntKind.min, IntKind.max, IntKind.signed, IntKind.bits] using this
  match zs, h1, hb with
  | [a, b, c, d, e, f, g, i], _, hb => exact ⟨⟨a, b, c, d, e, f, g, i⟩, by simp, hb a (by simp), hb b (by simp), hb c (by simp), hb d (by simp), hb e (by simp), hb f (by simp), hb g (by simp), hb i (by simp)⟩

/-- A slice of slices of integers, of any lengths. -/
structure RowsRaw (w : World) (a : Option Addr) (n : Nat) (zss : List (List Int)) : Prop where
  cnt : zss.length = n
  row : n = 0 ∨ ∃ b off, a = some ⟨b, off, none⟩ ∧ b < w.heap.size ∧ ∀ k zs, zss[k]? = some zs → zs.length ≤ maxLen ∧ ∃ ra rc, w.cell? ⟨b, off + k, none⟩ = some (.slice ra zs.length rc) ∧ IntRow w ra zs.length zs
theorem RowsRaw.below {w w' : World} {a : Option Addr} {n : Nat} {zss : List (List Int)} (h : RowsRaw w a n zss) (hb : Below w.heap.size w w') : RowsRaw w' a n zss := by
  refine ⟨h.cnt, ?_⟩
  rcases h.row with h' | ⟨b, off, h1, h2, h3⟩
  · exact .inl h'
  · refine .inr ⟨b, off, h1, Nat.lt_of_lt_of_le h2 hb.size, fun k zs hk => ?_⟩
    obtain ⟨q0, ra, rc, q1, q2⟩ := h3 k zs hk
    exact ⟨q0, ra, rc, (hb.cell (p := ⟨b, off + k, none⟩) h2).trans q1, q2.below hb⟩
theorem RowsRaw.at {w : World} {a : Option Addr} {n : Nat} {zss : List (List Int)} (h : RowsRaw w a n zss) {k : Nat} (hk : k < n) :
    ∃ b off zs ra rc, a = some ⟨b, off, none⟩ ∧ b < w.heap.size ∧ zss[k]? = some zs ∧ zs.length ≤ maxLen ∧ w.cell? ⟨b, off + k, none⟩ = some (.slice ra zs.length rc) ∧ IntRow w ra zs.length zs := by
  have hl : k < zss.length := by rw [h.cnt]; exact hk
  rcases h.row with h' | ⟨b, off, h1, h2, h3⟩
  · omega
  · obtain ⟨q0, ra, rc, q1, q2⟩ := h3 k zss[k] (List.getElem?_eq_getElem hl)
    exact ⟨b, off, zss[k], ra, rc, h1, h2, List.getElem?_eq_getElem hl, q0, q1, q2⟩
theorem RowsRaw.small {w : World} {a : Option Addr} {n : Nat} {zss : List (List Int)} (h : RowsRaw w a n zss) (hs : ∀ zs ∈ zss, zs.length ≤ 1000000) : RowsRow w a n zss := by
  refine ⟨h.cnt, ?_⟩
  rcases h.row with h' | ⟨b, off, h1, h2, h3⟩
  · exact .inl h'
  · refine .inr ⟨b, off, h1, h2, fun k zs hk => ?_⟩
    obtain ⟨q0, ra, rc, q1, q2⟩ := h3 k zs hk
    exact ⟨hs zs (List.mem_of_getElem? hk), ra, rc, q1, q2⟩

set_option maxRecDepth 100000 in
theorem open_rowsraw {H : Type} {enc : TypeId × Value → H} {W : World} {base : Nat} {sp : Nat → Bool} {held : Bool} {v : Value} {d : DataW H} {p : List MemPlace} {b0 : Nat} (hv : Value.okWide Tryz.prog W .any b0 23 v)
    (h : DataW.Trod enc Tryz.prog W base sp held 23 v d p) : ∃ a len cap zss, v = .slice a len cap ∧ RowsRaw W a len zss ∧ len ≤ maxLen := by
  obtain ⟨a, len, cap, rfl⟩ := okWide_slice Tryz.underlying23 hv
  obtain ⟨fuel, hf⟩ := h
  rcases open_slice1 Tryz.underlying23 (by kernel_rfl) hf with ⟨hcs, _⟩ | ⟨x, l, c, m, n, V, D, Pl, hcs, _, hl, hm, hmm, _, hel⟩
  · simp [Value.cells] at hcs
    obtain ⟨rfl, rfl, rfl⟩ := hcs
    exact ⟨none, 0, 0, [], rfl, ⟨rfl, .inl rfl⟩, Nat.zero_le _⟩
  · simp [Value.cells] at hcs
    obtain ⟨rfl, rfl, rfl⟩ := hcs
    have hlm : len ≤ m := by rw [hmm]; split <;> omega
    have key : ∀ i, i < len → ∃ zs : List Int, zs.length ≤ maxLen ∧ ∃ ra rc, W.cell? (x.add i) = some (.slice ra zs.length rc) ∧ IntRow W ra zs.length zs := by
      intro i hi
      obtain ⟨hc, ht⟩ := hel i (by omega)
      rcases open_ints Tryz.underlying31 Tryz.underlying3 (by kernel_rfl) ht with ⟨he, _⟩ | ⟨y, l2, c2, zs, he, _, hl2, hm2, hz, _, hcell, _⟩
      · simp at he
        rw [he] at hc
        exact ⟨[], Nat.zero_le _, none, 0, hc, rfl, .inl ⟨rfl, rfl⟩⟩
      · simp at he
        rw [he] at hc
        have hz' : l2 ≤ zs.length := by rw [hz]; split <;> omega
        have hlt : (zs.take l2).length = l2 := by rw [List.length_take]; omega
        refine ⟨zs.take l2, by omega, some y, c2, by rw [hlt]; exact hc, rfl, .inr ⟨y, rfl, fun j hj => ?_⟩⟩
        rw [hlt] at hj
        rw [hcell j (by omega)]
        simp [List.getElem?_take, hj]
    have list : ∀ n, n ≤ len → ∃ rs : List (List Int), rs.length = n ∧ ∀ (k : Nat) (zs : List Int), rs[k]? = some zs → zs.length ≤ maxLen ∧ ∃ ra rc, W.cell? (x.add k) = some (.slice ra zs.length rc) ∧ IntRow W ra zs.length zs := by
      intro n
      induction n with
      | zero => intro _; exact ⟨[], rfl, fun k r h => by simp at h⟩
      | succ n ih =>
        intro hn
        obtain ⟨rs, h1, h3⟩ := ih (by omega)
        obtain ⟨r, hc⟩ := key n (by omega)
        refine ⟨rs ++ [r], by simp [h1], fun k q hq => ?_⟩
        by_cases hk : k < rs.length
        · rw [List.getElem?_append_left hk] at hq
          exact h3 k q hq
        · have hkl := (List.getElem?_eq_some_iff.1 hq).1
          simp at hkl
          have hkn : k = n := by omega
          subst hkn
          rw [List.getElem?_append_right (by omega)] at hq
          simp [h1] at hq
          subst hq
          exact hc
    obtain ⟨rs, h1, h3⟩ := list len (Nat.le_refl _)
    refine ⟨some x, len, cap, rs, rfl, ⟨h1, ?_⟩, Nat.le_trans hl hm⟩
    by_cases h0 : len = 0
    · exact .inl h0
    · obtain ⟨b, off, spn⟩ := x
      have hr0 : rs[0]? = some rs[0] := List.getElem?_eq_getElem (by omega)
      obtain ⟨_, ra, rc, hz, _⟩ := h3 0 _ hr0
      have hsp : spn = none := by
        cases spn with
        | none => rfl
        | some q =>
          exfalso
          rw [add_zero] at hz
          simp only [World.cell?] at hz
          split at hz <;> simp at hz
      subst hsp
      have hlt := World.block_lt_of_cell? W _ hz
      rw [block_add] at hlt
      refine .inr ⟨b, off, rfl, hlt, fun k r hk => ?_⟩
      have := h3 k r hk
      rw [add_at] at this
      exact this

def fewB (zss : List (List Int)) (m : Nat) : Bool := (zss.take 5).all (fun zs => decide (zs.length ≤ m)) && decide (zss.length ≤ 4)
theorem fewB_yes {zss : List (List Int)} {m : Nat} (h : fewB zss m = true) : zss.length ≤ 4 ∧ ∀ zs ∈ zss, zs.length ≤ m := by
  unfold fewB at h
  simp only [Bool.and_eq_true, List.all_eq_true, decide_eq_true_eq] at h
  refine ⟨h.2, fun zs hz => h.1 zs ?_⟩
  rw [List.take_of_length_le (by omega)]
  exact hz

set_option maxRecDepth 100000 in
theorem Few_any (a : Option Addr) (n c m : Nat) (zss : List (List Int)) (w : World) (hr : RowsRaw w a n zss) (hn : n ≤ maxLen) (hm : m ≤ 1000) :
    Calls Tryz.prog 5 #[.slice a n c, .int .i64 m] w fun e w' => e = .returned (.bool (fewB zss m)) ∧ Below w.heap.size w w' := by
  have HR := hid hr
  have hcnt := hr.cnt
  have hn' : (n : Int) ≤ 9223372036854775807 := by unfold maxLen at hn; omega
  clear hr
  go_enter Tryz.func5, Tryz.ntmps5
  go_wp2_with fail
  go_loopw [5] (fun i wr => ∃ k : Nat, k ≤ n ∧ k ≤ 5 ∧ i = .int .i64 k ∧ (zss.take k).all (fun zs => decide (zs.length ≤ m)) = true ∧ w = wr) (fun i _ => 5 - (intOf i).toNat)
  case atStart => exact ⟨0, Nat.zero_le _, by omega, rfl, by simp, rfl⟩
  case round =>
    obtain ⟨k, hk, hk5, rfl, hall, rfl⟩ := hrel
    have HA := hid hall
    clear hall
    by_cases hlt : k < n ∧ k < 5
    · obtain ⟨hlt, hl5⟩ := hlt
      obtain ⟨b, off, zs, ra, rc, rfl, hbl, hzs, hzl, hcell, hir⟩ := HR.out.at hlt
      have hz' : (zs.length : Int) ≤ 9223372036854775807 := by unfold maxLen at hzl; omega
      have i0 : (0 : Int) ≤ (k : Int) := by omega
      have i1 : (k : Int) < ((n : Nat) : Int) := by omega
      have i5 : (k : Int) < 5 := by omega
      have HZ := hid hzs
      clear hzs hir
      by_cases hlm : zs.length ≤ m
      · have e1 : ¬ (m : Int) < (zs.length : Int) := by omega
        have HLM := hid hlm
        go_wp2
        go_roundw
        case rel =>
          refine ⟨k + 1, by omega, by omega, by go_num, ?_, by trivial⟩
          rw [List.take_add_one, HZ.out, List.all_append, HA.out]
          simp [HLM.out]
        case measure => simp [intOf]; omega
      · have e1 : (m : Int) < (zs.length : Int) := by omega
        have HF : Hid (fewB zss m = false) := hid (by
          unfold fewB
          have : (zss.take 5).all (fun zs => decide (zs.length ≤ m)) = false := by
            rw [List.all_eq_false]
            refine ⟨zs, List.mem_of_getElem? (i := k) ?_, by simpa using hlm⟩
            rw [List.getElem?_take, if_pos hl5]
            exact HZ.out
          rw [this]
          rfl)
        go_wp2
        go_ret
        exact ⟨by rw [HF.out] <;> rfl, bid w⟩
    · have HF : Hid (fewB zss m = decide ((n : Int) ≤ 4)) := hid (by
        unfold fewB
        have e : zss.take 5 = zss.take k := by
          by_cases h5 : k = 5
          · rw [h5]
          · have : k = n := by omega
            rw [List.take_of_length_le (by omega), List.take_of_length_le (by omega)]
        rw [e, HA.out, Bool.true_and, hcnt]
        apply decide_eq_decide.2
        omega)
      by_cases hkn : k < n
      · have h5 : k = 5 := by omega
        subst h5
        have i1 : (5 : Int) < ((n : Nat) : Int) := by omega
        have e4 : ¬ (n : Int) ≤ 4 := by omega
        clear hlt
        go_wp2
        go_ret
        exact ⟨by rw [HF.out, decide_eq_false (by omega)] <;> rfl, bid w⟩
      · have hkn' : k = n := by omega
        subst hkn'
        clear hlt
        by_cases e4 : (k : Int) ≤ 4
        · go_wp2
          go_ret
          exact ⟨by rw [HF.out, decide_eq_true (by omega)] <;> rfl, bid w⟩
        · go_wp2
          go_ret
          exact ⟨by rw [HF.out, decide_eq_false (by omega)] <;> rfl, bid w⟩

end Go.Proofs.YtblalejegjieaaaGreatDoor

namespace Go.Proofs.YtblalejegjieaaaGreatDoor
open Go.RowKit
set_option linter.unusedVariables false

/-- A config in a block of its own. -/
structure CB (w : World) (q : Nat) (c : Cfg) (s : CV) (W : World) : Prop where
  box : CfgBox W q c s
  q0 : w.heap.size < q
  below : Below w.heap.size w W
theorem CB.later {w W W' : World} {q : Nat} {c : Cfg} {s : CV} (h : CB w q c s W) (hb : Below W.heap.size W W') : CB w q c s W' :=
  ⟨h.box.below hb, h.q0, bthen h.below hb⟩
theorem CB.put {w W : World} {q : Nat} {c c' : Cfg} {s s' : CV} (h : CB w q c s W) (i : Nat) (u : Value) (he : (c.cs s).setIfInBounds i u = c'.cs s') : CB w q c' s' (W.setCell ⟨q, i, none⟩ u) := by
  have h0 := h.q0
  refine ⟨?_, h.q0, h.below.setCell (by dsimp only; omega) _⟩
  have := blk_setCell h.box i u
  rw [he] at this
  exact this
/-- Its numbers turned to any. -/
def rawF (k : K8) (c : Cfg) : Cfg := { c with eng := k.k0, clk := k.k1, str := k.k2, rds := k.k3, wrs := k.k4, rty := k.k5, fuel := k.k6, most := k.k7 }
theorem k8_cells {w w' : World} {k : K8} (hb : Below (w.alloc (.cells #[.int .i64 k.k0, .int .i64 k.k1, .int .i64 k.k2, .int .i64 k.k3, .int .i64 k.k4, .int .i64 k.k5, .int .i64 k.k6, .int .i64 k.k7] 22)).heap.size (w.alloc (.cells #[.int .i64 k.k0, .int .i64 k.k1, .int .i64 k.k2, .int .i64 k.k3, .int .i64 k.k4, .int .i64 k.k5, .int .i64 k.k6, .int .i64 k.k7] 22)) w') :
    w'.heap[w.heap.size]? = some (.cells #[.int .i64 k.k0, .int .i64 k.k1, .int .i64 k.k2, .int .i64 k.k3, .int .i64 k.k4, .int .i64 k.k5, .int .i64 k.k6, .int .i64 k.k7] 22 (0, 0)) :=
  (hb.block w.heap.size (by simp)).trans (heap_alloc_new w _)

theorem k8_put {w W : World} {k : K8} {q : Nat} (h : W.cell? ⟨w.heap.size, 0, none⟩ = some (.int .i64 k.k0) ∧ W.cell? ⟨w.heap.size, 1, none⟩ = some (.int .i64 k.k1) ∧ W.cell? ⟨w.heap.size, 2, none⟩ = some (.int .i64 k.k2) ∧ W.cell? ⟨w.heap.size, 3, none⟩ = some (.int .i64 k.k3) ∧ W.cell? ⟨w.heap.size, 4, none⟩ = some (.int .i64 k.k4) ∧ W.cell? ⟨w.heap.size, 5, none⟩ = some (.int .i64 k.k5) ∧ W.cell? ⟨w.heap.size, 6, none⟩ = some (.int .i64 k.k6) ∧ W.cell? ⟨w.heap.size, 7, none⟩ = some (.int .i64 k.k7)) (hq : w.heap.size < q) (i : Nat) (u : Value) : (W.setCell ⟨q, i, none⟩ u).cell? ⟨w.heap.size, 0, none⟩ = some (.int .i64 k.k0) ∧ (W.setCell ⟨q, i, none⟩ u).cell? ⟨w.heap.size, 1, none⟩ = some (.int .i64 k.k1) ∧ (W.setCell ⟨q, i, none⟩ u).cell? ⟨w.heap.size, 2, none⟩ = some (.int .i64 k.k2) ∧ (W.setCell ⟨q, i, none⟩ u).cell? ⟨w.heap.size, 3, none⟩ = some (.int .i64 k.k3) ∧ (W.setCell ⟨q, i, none⟩ u).cell? ⟨w.heap.size, 4, none⟩ = some (.int .i64 k.k4) ∧ (W.setCell ⟨q, i, none⟩ u).cell? ⟨w.heap.size, 5, none⟩ = some (.int .i64 k.k5) ∧ (W.setCell ⟨q, i, none⟩ u).cell? ⟨w.heap.size, 6, none⟩ = some (.int .i64 k.k6) ∧ (W.setCell ⟨q, i, none⟩ u).cell? ⟨w.heap.size, 7, none⟩ = some (.int .i64 k.k7) := by
  have e : ∀ j, (W.setCell ⟨q, i, none⟩ u).cell? ⟨w.heap.size, j, none⟩ = W.cell? ⟨w.heap.size, j, none⟩ := fun j => World.cell?_of_block (a := ⟨w.heap.size, j, none⟩) (Below.heap_setCell _ _ _ _ (show ¬ w.heap.size = q by omega))
  simp only [e]
  exact h
theorem k8_hold {w W : World} {k : K8} {q : Nat} {c' : Cfg} {s : CV} (h : W.cell? ⟨w.heap.size, 0, none⟩ = some (.int .i64 k.k0) ∧ W.cell? ⟨w.heap.size, 1, none⟩ = some (.int .i64 k.k1) ∧ W.cell? ⟨w.heap.size, 2, none⟩ = some (.int .i64 k.k2) ∧ W.cell? ⟨w.heap.size, 3, none⟩ = some (.int .i64 k.k3) ∧ W.cell? ⟨w.heap.size, 4, none⟩ = some (.int .i64 k.k4) ∧ W.cell? ⟨w.heap.size, 5, none⟩ = some (.int .i64 k.k5) ∧ W.cell? ⟨w.heap.size, 6, none⟩ = some (.int .i64 k.k6) ∧ W.cell? ⟨w.heap.size, 7, none⟩ = some (.int .i64 k.k7)) (hq : w.heap.size < q) (i : Nat) (u : Value) (hc : CB w q c' s (W.setCell ⟨q, i, none⟩ u)) : (W.setCell ⟨q, i, none⟩ u).cell? ⟨w.heap.size, 0, none⟩ = some (.int .i64 k.k0) ∧ (W.setCell ⟨q, i, none⟩ u).cell? ⟨w.heap.size, 1, none⟩ = some (.int .i64 k.k1) ∧ (W.setCell ⟨q, i, none⟩ u).cell? ⟨w.heap.size, 2, none⟩ = some (.int .i64 k.k2) ∧ (W.setCell ⟨q, i, none⟩ u).cell? ⟨w.heap.size, 3, none⟩ = some (.int .i64 k.k3) ∧ (W.setCell ⟨q, i, none⟩ u).cell? ⟨w.heap.size, 4, none⟩ = some (.int .i64 k.k4) ∧ (W.setCell ⟨q, i, none⟩ u).cell? ⟨w.heap.size, 5, none⟩ = some (.int .i64 k.k5) ∧ (W.setCell ⟨q, i, none⟩ u).cell? ⟨w.heap.size, 6, none⟩ = some (.int .i64 k.k6) ∧ (W.setCell ⟨q, i, none⟩ u).cell? ⟨w.heap.size, 7, none⟩ = some (.int .i64 k.k7) ∧ ∃ c' : Cfg, CB w q c' s (W.setCell ⟨q, i, none⟩ u) := by
  obtain ⟨g0, g1, g2, g3, g4, g5, g6, g7⟩ := k8_put h hq i u
  exact ⟨g0, g1, g2, g3, g4, g5, g6, g7, c', hc⟩
theorem rename_any {P : Program} {md : Region.Mode} {ops : Array Oper} {Q : Exit → Act → World → Prop} {S : World → Prop} {fuel : Nat} {listed : Array Bool} {a : Act} {w : World} (hS : S w) (h : ∀ W, S W → wpAnyH P md ops Q S fuel listed a W) : wpAnyH P md ops Q S fuel listed a w := h w hS
theorem info_slI : (Tryz.prog.info? 2).map (fun i => (i.zero, i.size, i.bytes)) = some (some (.int .i64 0), 1, 8) := by kernel_rfl
theorem make_int64 (M : Nat) (hM : M ≤ 1000) : ∃ cs : Array Value, cs.size = M ∧ ∀ W : World, (Instr.makeSlice 29 (.int .i64 (M : Int)) (.int .i64 (M : Int))).run Tryz.prog W = .ok (.slice (some ⟨W.heap.size, 0, none⟩) M M) (W.alloc (.cells cs 2)) := by
  obtain ⟨i, hi, hz0, hz1, hz2⟩ := info_parts info_slI
  refine ⟨madeCells (Value.int .i64 0).cells (M * 1), ?_, fun W => ?_⟩
  · rw [size_madeCells, Nat.mul_one]
  · have h := run_makeSlice (P := Tryz.prog) (w := W) 29 2 i (.int .i64 0) Tryz.underlying29 hi hz0 .i64 .i64 (M : Int) (M : Int) (by omega) (by omega) (by rw [hz1]; simp; omega) (by rw [hz2]; omega) (by omega)
    rw [hz1] at h
    simpa using h
theorem make_progs (M : Nat) (hM : M ≤ 1000) : ∃ cs : Array Value, (∀ i, i < M → cs[i]? = some (.slice none 0 0)) ∧ ∀ W : World, (Instr.makeSlice 32 (.int .i64 (M : Int)) (.int .i64 (M : Int))).run Tryz.prog W = .ok (.slice (some ⟨W.heap.size, 0, none⟩) M M) (W.alloc (.cells cs 38)) := by
  obtain ⟨i, hi, hz0, hz1, hz2⟩ := info_parts info61
  refine ⟨madeCells (Value.slice none 0 0).cells (M * 1), fun j hj => ?_, fun W => ?_⟩
  · rw [Nat.mul_one]
    simp [madeCells, hj, Value.cells, Nat.mod_one]
  · have h := run_makeSlice (P := Tryz.prog) (w := W) 32 38 i (.slice none 0 0) Tryz.underlying32 hi hz0 .i64 .i64 (M : Int) (M : Int) (by omega) (by omega) (by rw [hz1]; simp; omega) (by rw [hz2]; omega) (by omega)
    rw [hz1] at h
    simpa using h

theorem progs_made {W : World} {T q i : Nat} {cs : Array Value} {u : Value} (hc : ∀ i, i < T → cs[i]? = some (.slice none 0 0)) (hq : q < W.heap.size) :
    ProgRow ((W.alloc (.cells cs 38)).setCell ⟨q, i, none⟩ u) (some ⟨W.heap.size, 0, none⟩) T (List.replicate T []) := by
  have hb : ((W.alloc (.cells cs 38)).setCell ⟨q, i, none⟩ u).heap[W.heap.size]? = some (.cells cs 38 (0, 0)) :=
    (Below.heap_setCell _ _ _ _ (show ¬ W.heap.size = q by omega)).trans (heap_alloc_new W (.cells cs 38))
  refine ⟨by simp, .inr ⟨_, 0, rfl, lt_of_block hb, fun k p hk => ?_⟩⟩
  have hkT : k < T := by have := (List.getElem?_eq_some_iff.1 hk).1; simpa using this
  have hp : p = [] := by simp [hkT] at hk; exact hk
  subst hp
  refine ⟨none, 0, ?_, Nat.zero_le _, Nat.zero_le _, ⟨rfl, .inl ⟨rfl, rfl⟩⟩⟩
  have := cell_of_blk hb (0 + k)
  rw [this, Nat.zero_add]
  exact hc k hkT

end Go.Proofs.YtblalejegjieaaaGreatDoor

namespace Go.Proofs.YtblalejegjieaaaGreatDoor
open Go.RowKit
set_option linter.unusedVariables false

set_option maxRecDepth 100000 in
set_option maxHeartbeats 8000000 in
theorem config_walk {sb : Nat → Addr} (k : K8) (al ac : Option Addr) (nl kl nc kc : Nat) (ls : List Lk) (cs : List Int) (a3 a4 : Int) (raw : Bool) (w : World) (hE : Errs sb w) (hl : LkRow w al nl ls) (hc : IntRow w ac nc cs) (hnl : nl ≤ maxLen) (hnc : nc ≤ maxLen) :
    Calls Tryz.prog 4 #[k.v, .slice al nl kl, .slice ac nc kc, .int .i64 a3, .int .i64 a4, .bool raw] w fun e w' => e = .returned (.bool true) ∧ Below w.heap.size w w' := by
  have HE := hid hE
  have HB0 := hid (bnew (bid w) (.cells #[.int .i64 k.k0, .int .i64 k.k1, .int .i64 k.k2, .int .i64 k.k3, .int .i64 k.k4, .int .i64 k.k5, .int .i64 k.k6, .int .i64 k.k7] 22))
  have HL := hid hl
  have HC := hid hc
  have HTD := hid (fun (W : World) (hW : Below w.heap.size w W) => told6_any (sb := sb) W (hE.below hW))
  clear hE hl hc
  by_cases h1 : 6 < (nl : Int)
  · go_enter Tryz.func4, Tryz.ntmps4
    go_wp2_with (go_at_call 6; go_must (refine (HTD.out _ HB0.out).mono ?_; rintro e w4 ⟨rfl, hb4⟩; have HB4 := hid (bthen HB0.out hb4); clear hb4))
    go_ret
    exact ⟨rfl, HB4.out⟩
  by_cases h2 : 6 < (nc : Int)
  · go_enter Tryz.func4, Tryz.ntmps4
    go_wp2_with (go_at_call 6; go_must (refine (HTD.out _ HB0.out).mono ?_; rintro e w4 ⟨rfl, hb4⟩; have HB4 := hid (bthen HB0.out hb4); clear hb4))
    go_ret
    exact ⟨rfl, HB4.out⟩
  have HBN := hid (fun (W : World) => Build_any k none 0 0 [] W ⟨rfl, .inl rfl⟩ (by decide))
  have HK8 := hid (fun (W : World) hW => k8_cells (w := w) (w' := W) (k := k) hW)
  generalize build6 k [] = cc at HBN
  go_enter Tryz.func4, Tryz.ntmps4
  go_upto_region 4 with (go_at_call 7; go_must (refine (HBN.out _).mono ?_; rintro e w2 ⟨s, rfl, hbt, hni, hb2⟩; have HKB := hid (HK8.out _ hb2); have HB2 := hid (bthen HB0.out hb2); have HSZ := hid (Nat.lt_of_lt_of_le (lt_of_block (heap_alloc_new w (.cells #[.int .i64 k.k0, .int .i64 k.k1, .int .i64 k.k2, .int .i64 k.k3, .int .i64 k.k4, .int .i64 k.k5, .int .i64 k.k6, .int .i64 k.k7] 22))) hb2.size); clear hbt hni hb2))
  refine wp_rename (fun W => CB w w2.heap.size cc s W ∧ W.heap[w.heap.size]? = some (.cells #[.int .i64 k.k0, .int .i64 k.k1, .int .i64 k.k2, .int .i64 k.k3, .int .i64 k.k4, .int .i64 k.k5, .int .i64 k.k6, .int .i64 k.k7] 22 (0, 0))) ⟨⟨CfgBox.new _ _ _, HSZ.out, bnew HB2.out _⟩, (Below.heap_alloc _ _ _ HSZ.out).trans HKB.out⟩ ?_
  rintro W3 ⟨hcb, hkb⟩
  generalize w2.heap.size = q at hcb ⊢
  clear HBN HK8 HB2 HKB HSZ w2
  have HCB := hid hcb
  have f0 := frozen_of_blk hcb.box 0
  have f1 := frozen_of_blk hcb.box 1
  have f2 := frozen_of_blk hcb.box 2
  have f3 := frozen_of_blk hcb.box 3
  have f4 := frozen_of_blk hcb.box 4
  have f5 := frozen_of_blk hcb.box 5
  have f6 := frozen_of_blk hcb.box 6
  have f7 := frozen_of_blk hcb.box 7
  obtain ⟨r0, r1, r2, r3, r4, r5, r6, r7, r8, r9, r10, r11⟩ := cfg_facts hcb.box
  have q0 := cell_of_blk hkb 0
  have q1 := cell_of_blk hkb 1
  have q2 := cell_of_blk hkb 2
  have q3 := cell_of_blk hkb 3
  have q4 := cell_of_blk hkb 4
  have q5 := cell_of_blk hkb 5
  have q6 := cell_of_blk hkb 6
  have q7 := cell_of_blk hkb 7
  simp only [List.getElem?_toArray, List.getElem?_cons_zero, List.getElem?_cons_succ] at q0 q1 q2 q3 q4 q5 q6 q7
  clear hkb hcb
  have HQ8 := hid (show W3.drew.cell? ⟨w.heap.size, 0, none⟩ = some (.int .i64 k.k0) ∧ W3.drew.cell? ⟨w.heap.size, 1, none⟩ = some (.int .i64 k.k1) ∧ W3.drew.cell? ⟨w.heap.size, 2, none⟩ = some (.int .i64 k.k2) ∧ W3.drew.cell? ⟨w.heap.size, 3, none⟩ = some (.int .i64 k.k3) ∧ W3.drew.cell? ⟨w.heap.size, 4, none⟩ = some (.int .i64 k.k4) ∧ W3.drew.cell? ⟨w.heap.size, 5, none⟩ = some (.int .i64 k.k5) ∧ W3.drew.cell? ⟨w.heap.size, 6, none⟩ = some (.int .i64 k.k6) ∧ W3.drew.cell? ⟨w.heap.size, 7, none⟩ = some (.int .i64 k.k7) from ⟨q0, q1, q2, q3, q4, q5, q6, q7⟩)
  go_upto_if 25 with fail
  go_cut [] (fun wx => ∃ c', CB w q c' s wx)
  case first =>
    cases raw
    · go_wp2
      go_meet
      case rel => exact ⟨cc, HCB.out⟩
    · go_upto_region 5 with fail
      refine wp_region_noPanic ?_
      refine wp_region_held_drew (S := (fun w' => w'.cell? ⟨w.heap.size, 0, none⟩ = some (.int .i64 k.k0) ∧ w'.cell? ⟨w.heap.size, 1, none⟩ = some (.int .i64 k.k1) ∧ w'.cell? ⟨w.heap.size, 2, none⟩ = some (.int .i64 k.k2) ∧ w'.cell? ⟨w.heap.size, 3, none⟩ = some (.int .i64 k.k3) ∧ w'.cell? ⟨w.heap.size, 4, none⟩ = some (.int .i64 k.k4) ∧ w'.cell? ⟨w.heap.size, 5, none⟩ = some (.int .i64 k.k5) ∧ w'.cell? ⟨w.heap.size, 6, none⟩ = some (.int .i64 k.k6) ∧ w'.cell? ⟨w.heap.size, 7, none⟩ = some (.int .i64 k.k7) ∧ ∃ c' : Cfg, CB w q c' s w')) (by kernel_rfl) ⟨HQ8.out.1, HQ8.out.2.1, HQ8.out.2.2.1, HQ8.out.2.2.2.1, HQ8.out.2.2.2.2.1, HQ8.out.2.2.2.2.2.1, HQ8.out.2.2.2.2.2.2.1, HQ8.out.2.2.2.2.2.2.2, cc, HCB.out.later (bdrew (bid _))⟩ (fun hHeld => ?_)
      clear q0 q1 q2 q3 q4 q5 q6 q7 f0 f1 f2 f3 f4 f5 f6 f7 r0 r1 r2 r3 r4 r5 r6 r7 r8 r9 r10 r11
      refine wpAnyH_take (i := 0) (v := ?_) rfl (by kernel_rfl) (by kernel_rfl) (by kernel_rfl) (fun _ _ _ h => h) (Or.inl ⟨by rfl, ?_⟩) (by assumption) ?_
      rotate_left
      · (intro w' hSw; (try dsimp only at hSw); go_simp; try (with_reducible rfl))
      (try simp only [Act.put, List.getElem_toArray, List.getElem_cons_zero, List.getElem_cons_succ, List.setIfInBounds_toArray, List.set_cons_zero, List.set_cons_succ])
      refine wpAnyH_take (i := 1) (v := ?_) rfl (by kernel_rfl) (by kernel_rfl) (by kernel_rfl) (fun _ _ _ h => h) (Or.inl ⟨by rfl, ?_⟩) (by assumption) ?_
      rotate_left
      · (intro w' hSw; (try dsimp only at hSw); go_simp; try (with_reducible rfl))
      (try simp only [Act.put, List.getElem_toArray, List.getElem_cons_zero, List.getElem_cons_succ, List.setIfInBounds_toArray, List.set_cons_zero, List.set_cons_succ])
      refine wpAnyH_take (i := 2) (v := ?_) rfl (by kernel_rfl) (by kernel_rfl) (by kernel_rfl) (fun _ _ _ h => h) (Or.inl ⟨by rfl, ?_⟩) (by assumption) ?_
      rotate_left
      · (intro w' hSw; (try dsimp only at hSw); go_simp; try (with_reducible rfl))
      (try simp only [Act.put, List.getElem_toArray, List.getElem_cons_zero, List.getElem_cons_succ, List.setIfInBounds_toArray, List.set_cons_zero, List.set_cons_succ])
      refine wpAnyH_take (i := 3) (v := ?_) rfl (by kernel_rfl) (by kernel_rfl) (by kernel_rfl) (fun _ _ _ h => h) (Or.inl ⟨by rfl, ?_⟩) (by assumption) ?_
      rotate_left
      · (intro w' hSw; (try dsimp only at hSw); go_simp; try (with_reducible rfl))
      (try simp only [Act.put, List.getElem_toArray, List.getElem_cons_zero, List.getElem_cons_succ, List.setIfInBounds_toArray, List.set_cons_zero, List.set_cons_succ])
      refine wpAnyH_take (i := 4) (v := ?_) rfl (by kernel_rfl) (by kernel_rfl) (by kernel_rfl) (fun _ _ _ h => h) (Or.inl ⟨by rfl, ?_⟩) (by assumption) ?_
      rotate_left
      · (intro w' hSw; (try dsimp only at hSw); go_simp; try (with_reducible rfl))
      (try simp only [Act.put, List.getElem_toArray, List.getElem_cons_zero, List.getElem_cons_succ, List.setIfInBounds_toArray, List.set_cons_zero, List.set_cons_succ])
      refine wpAnyH_take (i := 5) (v := ?_) rfl (by kernel_rfl) (by kernel_rfl) (by kernel_rfl) (fun _ _ _ h => h) (Or.inl ⟨by rfl, ?_⟩) (by assumption) ?_
      rotate_left
      · (intro w' hSw; (try dsimp only at hSw); go_simp; try (with_reducible rfl))
      (try simp only [Act.put, List.getElem_toArray, List.getElem_cons_zero, List.getElem_cons_succ, List.setIfInBounds_toArray, List.set_cons_zero, List.set_cons_succ])
      refine wpAnyH_take (i := 6) (v := ?_) rfl (by kernel_rfl) (by kernel_rfl) (by kernel_rfl) (fun _ _ _ h => h) (Or.inl ⟨by rfl, ?_⟩) (by assumption) ?_
      rotate_left
      · (intro w' hSw; (try dsimp only at hSw); go_simp; try (with_reducible rfl))
      (try simp only [Act.put, List.getElem_toArray, List.getElem_cons_zero, List.getElem_cons_succ, List.setIfInBounds_toArray, List.set_cons_zero, List.set_cons_succ])
      refine wpAnyH_take (i := 7) (v := ?_) rfl (by kernel_rfl) (by kernel_rfl) (by kernel_rfl) (fun _ _ _ h => h) (Or.inl ⟨by rfl, ?_⟩) (by assumption) ?_
      rotate_left
      · (intro w' hSw; (try dsimp only at hSw); go_simp; try (with_reducible rfl))
      (try simp only [Act.put, List.getElem_toArray, List.getElem_cons_zero, List.getElem_cons_succ, List.setIfInBounds_toArray, List.set_cons_zero, List.set_cons_succ])
      refine wpAnyH_take (i := 8) (v := ?_) rfl (by kernel_rfl) (by kernel_rfl) (by kernel_rfl) (fun _ _ _ h => h) (Or.inl ⟨by rfl, ?_⟩) (by assumption) ?_
      rotate_left
      · (intro w' hSw; (try dsimp only at hSw); go_simp; try (with_reducible rfl))
      (try simp only [Act.put, List.getElem_toArray, List.getElem_cons_zero, List.getElem_cons_succ, List.setIfInBounds_toArray, List.set_cons_zero, List.set_cons_succ])
      refine wpAnyH_take (i := 9) (v := ?_) rfl (by kernel_rfl) (by kernel_rfl) (by kernel_rfl) (fun _ _ _ h => h) (Or.inl ⟨by rfl, ?_⟩) (by assumption) ?_
      rotate_left
      · (intro w' hSw; (try dsimp only at hSw); go_simp; try (with_reducible rfl))
      (try simp only [Act.put, List.getElem_toArray, List.getElem_cons_zero, List.getElem_cons_succ, List.setIfInBounds_toArray, List.set_cons_zero, List.set_cons_succ])
      refine wpAnyH_take (i := 10) (v := ?_) rfl (by kernel_rfl) (by kernel_rfl) (by kernel_rfl) (fun _ _ _ h => h) (Or.inl ⟨by rfl, ?_⟩) (by assumption) ?_
      rotate_left
      · (intro w' hSw; (try dsimp only at hSw); go_simp; try (with_reducible rfl))
      (try simp only [Act.put, List.getElem_toArray, List.getElem_cons_zero, List.getElem_cons_succ, List.setIfInBounds_toArray, List.set_cons_zero, List.set_cons_succ])
      refine wpAnyH_take (i := 11) (v := ?_) rfl (by kernel_rfl) (by kernel_rfl) (by kernel_rfl) (fun _ _ _ h => h) (Or.inl ⟨by rfl, ?_⟩) (by assumption) ?_
      rotate_left
      · (intro w' hSw; (try dsimp only at hSw); go_simp; try (with_reducible rfl))
      (try simp only [Act.put, List.getElem_toArray, List.getElem_cons_zero, List.getElem_cons_succ, List.setIfInBounds_toArray, List.set_cons_zero, List.set_cons_succ])
      refine wpAnyH_take (i := 12) (v := ?_) rfl (by kernel_rfl) (by kernel_rfl) (by kernel_rfl) (fun _ _ _ h => h) (Or.inl ⟨by rfl, ?_⟩) (by assumption) ?_
      rotate_left
      · (intro w' hSw; (try dsimp only at hSw); go_simp; try (with_reducible rfl))
      (try simp only [Act.put, List.getElem_toArray, List.getElem_cons_zero, List.getElem_cons_succ, List.setIfInBounds_toArray, List.set_cons_zero, List.set_cons_succ])
      refine wpAnyH_take (i := 13) (v := ?_) rfl (by kernel_rfl) (by kernel_rfl) (by kernel_rfl) (fun _ _ _ h => h) (Or.inl ⟨by rfl, ?_⟩) (by assumption) ?_
      rotate_left
      · (intro w' hSw; (try dsimp only at hSw); go_simp; try (with_reducible rfl))
      (try simp only [Act.put, List.getElem_toArray, List.getElem_cons_zero, List.getElem_cons_succ, List.setIfInBounds_toArray, List.set_cons_zero, List.set_cons_succ])
      refine wpAnyH_take (i := 14) (v := ?_) rfl (by kernel_rfl) (by kernel_rfl) (by kernel_rfl) (fun _ _ _ h => h) (Or.inl ⟨by rfl, ?_⟩) (by assumption) ?_
      rotate_left
      · (intro w' hSw; (try dsimp only at hSw); go_simp; try (with_reducible rfl))
      (try simp only [Act.put, List.getElem_toArray, List.getElem_cons_zero, List.getElem_cons_succ, List.setIfInBounds_toArray, List.set_cons_zero, List.set_cons_succ])
      refine wpAnyH_take (i := 15) (v := ?_) rfl (by kernel_rfl) (by kernel_rfl) (by kernel_rfl) (fun _ _ _ h => h) (Or.inl ⟨by rfl, ?_⟩) (by assumption) ?_
      rotate_left
      · (intro w' hSw; (try dsimp only at hSw); go_simp; try (with_reducible rfl))
      (try simp only [Act.put, List.getElem_toArray, List.getElem_cons_zero, List.getElem_cons_succ, List.setIfInBounds_toArray, List.set_cons_zero, List.set_cons_succ])
      refine wpAnyH_take (i := 16) (v := ?_) rfl (by kernel_rfl) (by kernel_rfl) (by kernel_rfl) (fun _ _ _ h => h) (Or.inl ⟨by rfl, ?_⟩) (by assumption) ?_
      rotate_left
      · (intro w' hSw; (try dsimp only at hSw); go_simp; try (with_reducible rfl))
      (try simp only [Act.put, List.getElem_toArray, List.getElem_cons_zero, List.getElem_cons_succ, List.setIfInBounds_toArray, List.set_cons_zero, List.set_cons_succ])
      refine wpAnyH_ready (rs := [17]) (by kernel_rfl) (by simp) (AllReadyH.cons rfl (fun KK hK => ?_) AllReadyH.nil)
      obtain ⟨g0, g1, g2, g3, g4, g5, g6, g7, c', hcb⟩ := hHeld
      have ff := frozen_of_blk hcb.box 0
      have rr := cell_of_blk hcb.box 0
      simp only [Cfg.cs, List.getElem?_toArray, List.getElem?_cons_zero, List.getElem?_cons_succ] at rr
      go_simp
      refine hK.out _ _ (k8_hold ⟨g0, g1, g2, g3, g4, g5, g6, g7⟩ hcb.q0 0 _ (hcb.put (c' := { c' with eng := k.k0 }) 0 _ rfl)) (fun hHeld => ?_)
      clear hK KK g0 g1 g2 g3 g4 g5 g6 g7 ff rr hcb c'
      (try simp only [Act.put, List.getElem_toArray, List.getElem_cons_zero, List.getElem_cons_succ, List.setIfInBounds_toArray, List.set_cons_zero, List.set_cons_succ])
      refine rename_any hHeld ?_
      clear hHeld
      intro W4 hHeld
      refine wpAnyH_take (i := 18) (v := ?_) rfl (by kernel_rfl) (by kernel_rfl) (by kernel_rfl) (fun _ _ _ h => h) (Or.inl ⟨by rfl, ?_⟩) (by assumption) ?_
      rotate_left
      · (intro w' hSw; (try dsimp only at hSw); go_simp; try (with_reducible rfl))
      (try simp only [Act.put, List.getElem_toArray, List.getElem_cons_zero, List.getElem_cons_succ, List.setIfInBounds_toArray, List.set_cons_zero, List.set_cons_succ])
      refine wpAnyH_ready (rs := [19]) (by kernel_rfl) (by simp) (AllReadyH.cons rfl (fun KK hK => ?_) AllReadyH.nil)
      obtain ⟨g0, g1, g2, g3, g4, g5, g6, g7, c', hcb⟩ := hHeld
      have ff := frozen_of_blk hcb.box 1
      have rr := cell_of_blk hcb.box 1
      simp only [Cfg.cs, List.getElem?_toArray, List.getElem?_cons_zero, List.getElem?_cons_succ] at rr
      go_simp
      refine hK.out _ _ (k8_hold ⟨g0, g1, g2, g3, g4, g5, g6, g7⟩ hcb.q0 1 _ (hcb.put (c' := { c' with clk := k.k1 }) 1 _ rfl)) (fun hHeld => ?_)
      clear hK KK g0 g1 g2 g3 g4 g5 g6 g7 ff rr hcb c'
      (try simp only [Act.put, List.getElem_toArray, List.getElem_cons_zero, List.getElem_cons_succ, List.setIfInBounds_toArray, List.set_cons_zero, List.set_cons_succ])
      refine rename_any hHeld ?_
      clear hHeld
      intro W5 hHeld
      refine wpAnyH_take (i := 20) (v := ?_) rfl (by kernel_rfl) (by kernel_rfl) (by kernel_rfl) (fun _ _ _ h => h) (Or.inl ⟨by rfl, ?_⟩) (by assumption) ?_
      rotate_left
      · (intro w' hSw; (try dsimp only at hSw); go_simp; try (with_reducible rfl))
      (try simp only [Act.put, List.getElem_toArray, List.getElem_cons_zero, List.getElem_cons_succ, List.setIfInBounds_toArray, List.set_cons_zero, List.set_cons_succ])
      refine wpAnyH_ready (rs := [21]) (by kernel_rfl) (by simp) (AllReadyH.cons rfl (fun KK hK => ?_) AllReadyH.nil)
      obtain ⟨g0, g1, g2, g3, g4, g5, g6, g7, c', hcb⟩ := hHeld
      have ff := frozen_of_blk hcb.box 2
      have rr := cell_of_blk hcb.box 2
      simp only [Cfg.cs, List.getElem?_toArray, List.getElem?_cons_zero, List.getElem?_cons_succ] at rr
      go_simp
      refine hK.out _ _ (k8_hold ⟨g0, g1, g2, g3, g4, g5, g6, g7⟩ hcb.q0 2 _ (hcb.put (c' := { c' with str := k.k2 }) 2 _ rfl)) (fun hHeld => ?_)
      clear hK KK g0 g1 g2 g3 g4 g5 g6 g7 ff rr hcb c'
      (try simp only [Act.put, List.getElem_toArray, List.getElem_cons_zero, List.getElem_cons_succ, List.setIfInBounds_toArray, List.set_cons_zero, List.set_cons_succ])
      refine rename_any hHeld ?_
      clear hHeld
      intro W6 hHeld
      refine wpAnyH_take (i := 22) (v := ?_) rfl (by kernel_rfl) (by kernel_rfl) (by kernel_rfl) (fun _ _ _ h => h) (Or.inl ⟨by rfl, ?_⟩) (by assumption) ?_
      rotate_left
      · (intro w' hSw; (try dsimp only at hSw); go_simp; try (with_reducible rfl))
      (try simp only [Act.put, List.getElem_toArray, List.getElem_cons_zero, List.getElem_cons_succ, List.setIfInBounds_toArray, List.set_cons_zero, List.set_cons_succ])
      refine wpAnyH_ready (rs := [23]) (by kernel_rfl) (by simp) (AllReadyH.cons rfl (fun KK hK => ?_) AllReadyH.nil)
      obtain ⟨g0, g1, g2, g3, g4, g5, g6, g7, c', hcb⟩ := hHeld
      have ff := frozen_of_blk hcb.box 3
      have rr := cell_of_blk hcb.box 3
      simp only [Cfg.cs, List.getElem?_toArray, List.getElem?_cons_zero, List.getElem?_cons_succ] at rr
      go_simp
      refine hK.out _ _ (k8_hold ⟨g0, g1, g2, g3, g4, g5, g6, g7⟩ hcb.q0 3 _ (hcb.put (c' := { c' with rds := k.k3 }) 3 _ rfl)) (fun hHeld => ?_)
      clear hK KK g0 g1 g2 g3 g4 g5 g6 g7 ff rr hcb c'
      (try simp only [Act.put, List.getElem_toArray, List.getElem_cons_zero, List.getElem_cons_succ, List.setIfInBounds_toArray, List.set_cons_zero, List.set_cons_succ])
      refine rename_any hHeld ?_
      clear hHeld
      intro W7 hHeld
      refine wpAnyH_take (i := 24) (v := ?_) rfl (by kernel_rfl) (by kernel_rfl) (by kernel_rfl) (fun _ _ _ h => h) (Or.inl ⟨by rfl, ?_⟩) (by assumption) ?_
      rotate_left
      · (intro w' hSw; (try dsimp only at hSw); go_simp; try (with_reducible rfl))
      (try simp only [Act.put, List.getElem_toArray, List.getElem_cons_zero, List.getElem_cons_succ, List.setIfInBounds_toArray, List.set_cons_zero, List.set_cons_succ])
      refine wpAnyH_ready (rs := [25]) (by kernel_rfl) (by simp) (AllReadyH.cons rfl (fun KK hK => ?_) AllReadyH.nil)
      obtain ⟨g0, g1, g2, g3, g4, g5, g6, g7, c', hcb⟩ := hHeld
      have ff := frozen_of_blk hcb.box 4
      have rr := cell_of_blk hcb.box 4
      simp only [Cfg.cs, List.getElem?_toArray, List.getElem?_cons_zero, List.getElem?_cons_succ] at rr
      go_simp
      refine hK.out _ _ (k8_hold ⟨g0, g1, g2, g3, g4, g5, g6, g7⟩ hcb.q0 4 _ (hcb.put (c' := { c' with wrs := k.k4 }) 4 _ rfl)) (fun hHeld => ?_)
      clear hK KK g0 g1 g2 g3 g4 g5 g6 g7 ff rr hcb c'
      (try simp only [Act.put, List.getElem_toArray, List.getElem_cons_zero, List.getElem_cons_succ, List.setIfInBounds_toArray, List.set_cons_zero, List.set_cons_succ])
      refine rename_any hHeld ?_
      clear hHeld
      intro W8 hHeld
      refine wpAnyH_take (i := 26) (v := ?_) rfl (by kernel_rfl) (by kernel_rfl) (by kernel_rfl) (fun _ _ _ h => h) (Or.inl ⟨by rfl, ?_⟩) (by assumption) ?_
      rotate_left
      · (intro w' hSw; (try dsimp only at hSw); go_simp; try (with_reducible rfl))
      (try simp only [Act.put, List.getElem_toArray, List.getElem_cons_zero, List.getElem_cons_succ, List.setIfInBounds_toArray, List.set_cons_zero, List.set_cons_succ])
      refine wpAnyH_ready (rs := [27]) (by kernel_rfl) (by simp) (AllReadyH.cons rfl (fun KK hK => ?_) AllReadyH.nil)
      obtain ⟨g0, g1, g2, g3, g4, g5, g6, g7, c', hcb⟩ := hHeld
      have ff := frozen_of_blk hcb.box 5
      have rr := cell_of_blk hcb.box 5
      simp only [Cfg.cs, List.getElem?_toArray, List.getElem?_cons_zero, List.getElem?_cons_succ] at rr
      go_simp
      refine hK.out _ _ (k8_hold ⟨g0, g1, g2, g3, g4, g5, g6, g7⟩ hcb.q0 5 _ (hcb.put (c' := { c' with rty := k.k5 }) 5 _ rfl)) (fun hHeld => ?_)
      clear hK KK g0 g1 g2 g3 g4 g5 g6 g7 ff rr hcb c'
      (try simp only [Act.put, List.getElem_toArray, List.getElem_cons_zero, List.getElem_cons_succ, List.setIfInBounds_toArray, List.set_cons_zero, List.set_cons_succ])
      refine rename_any hHeld ?_
      clear hHeld
      intro W9 hHeld
      refine wpAnyH_take (i := 28) (v := ?_) rfl (by kernel_rfl) (by kernel_rfl) (by kernel_rfl) (fun _ _ _ h => h) (Or.inl ⟨by rfl, ?_⟩) (by assumption) ?_
      rotate_left
      · (intro w' hSw; (try dsimp only at hSw); go_simp; try (with_reducible rfl))
      (try simp only [Act.put, List.getElem_toArray, List.getElem_cons_zero, List.getElem_cons_succ, List.setIfInBounds_toArray, List.set_cons_zero, List.set_cons_succ])
      refine wpAnyH_ready (rs := [29]) (by kernel_rfl) (by simp) (AllReadyH.cons rfl (fun KK hK => ?_) AllReadyH.nil)
      obtain ⟨g0, g1, g2, g3, g4, g5, g6, g7, c', hcb⟩ := hHeld
      have ff := frozen_of_blk hcb.box 6
      have rr := cell_of_blk hcb.box 6
      simp only [Cfg.cs, List.getElem?_toArray, List.getElem?_cons_zero, List.getElem?_cons_succ] at rr
      go_simp
      refine hK.out _ _ (k8_hold ⟨g0, g1, g2, g3, g4, g5, g6, g7⟩ hcb.q0 6 _ (hcb.put (c' := { c' with fuel := k.k6 }) 6 _ rfl)) (fun hHeld => ?_)
      clear hK KK g0 g1 g2 g3 g4 g5 g6 g7 ff rr hcb c'
      (try simp only [Act.put, List.getElem_toArray, List.getElem_cons_zero, List.getElem_cons_succ, List.setIfInBounds_toArray, List.set_cons_zero, List.set_cons_succ])
      refine rename_any hHeld ?_
      clear hHeld
      intro W10 hHeld
      refine wpAnyH_take (i := 30) (v := ?_) rfl (by kernel_rfl) (by kernel_rfl) (by kernel_rfl) (fun _ _ _ h => h) (Or.inl ⟨by rfl, ?_⟩) (by assumption) ?_
      rotate_left
      · (intro w' hSw; (try dsimp only at hSw); go_simp; try (with_reducible rfl))
      (try simp only [Act.put, List.getElem_toArray, List.getElem_cons_zero, List.getElem_cons_succ, List.setIfInBounds_toArray, List.set_cons_zero, List.set_cons_succ])
      refine wpAnyH_ready (rs := [31]) (by kernel_rfl) (by simp) (AllReadyH.cons rfl (fun KK hK => ?_) AllReadyH.nil)
      obtain ⟨g0, g1, g2, g3, g4, g5, g6, g7, c', hcb⟩ := hHeld
      have ff := frozen_of_blk hcb.box 7
      have rr := cell_of_blk hcb.box 7
      simp only [Cfg.cs, List.getElem?_toArray, List.getElem?_cons_zero, List.getElem?_cons_succ] at rr
      go_simp
      refine hK.out _ _ (k8_hold ⟨g0, g1, g2, g3, g4, g5, g6, g7⟩ hcb.q0 7 _ (hcb.put (c' := { c' with most := k.k7 }) 7 _ rfl)) (fun hHeld => ?_)
      clear hK KK g0 g1 g2 g3 g4 g5 g6 g7 ff rr hcb c'
      (try simp only [Act.put, List.getElem_toArray, List.getElem_cons_zero, List.getElem_cons_succ, List.setIfInBounds_toArray, List.set_cons_zero, List.set_cons_succ])
      refine rename_any hHeld ?_
      clear hHeld
      intro W11 hHeld
      refine wpAnyH_done (by kernel_rfl) ?_ _
      refine NoPanic.normal ?_
      obtain ⟨-, -, -, -, -, -, -, -, hcb⟩ := hHeld
      go_wp2
      go_meet
      case rel => exact hcb
  case rest =>
    clear f0 f1 f2 f3 f4 f5 f6 f7 r0 r1 r2 r3 r4 r5 r6 r7 r8 r9 r10 r11 q0 q1 q2 q3 q4 q5 q6 q7 HQ8 HCB
    obtain ⟨c1, hcb⟩ := hcut
    have HCB := hid hcb
    have f9 := frozen_of_blk hcb.box 9
    have f10 := frozen_of_blk hcb.box 10
    obtain ⟨r0, r1, r2, r3, r4, r5, r6, r7, r8, r9, r10, r11⟩ := cfg_facts hcb.box
    clear hcb
    go_upto_region 7 with fail
    refine wp_rename (fun W => CB w q { c1 with locks := ls, conds := cs } { s with al := al, nl := nl, kl := kl, ac := ac, nc := nc, kc := kc } W) ((HCB.out.put (c' := { c1 with locks := ls }) (s' := { s with al := al, nl := nl, kl := kl }) 9 (.slice al nl kl) rfl).put 10 (.slice ac nc kc) rfl) ?_
    intro W4 hcb
    have HC4 := hid hcb
    clear f9 f10 r0 r1 r2 r3 r4 r5 r6 r7 r8 r9 r10 r11 HCB
    have f8 := frozen_of_blk hcb.box 8
    obtain ⟨r0, r1, r2, r3, r4, r5, r6, r7, r8, r9, r10, r11⟩ := cfg_facts hcb.box
    clear hcb
    obtain ⟨M, hM, hM1⟩ : ∃ M : Nat, pickF a3 36 = (M : Int) ∧ M < 36 := by
      have := pickF_in (x := a3) (n := 36) (by decide)
      exact ⟨(pickF a3 36).toNat, by omega, by omega⟩
    obtain ⟨T, hT, hT1⟩ : ∃ T : Nat, pickF a4 7 = (T : Int) ∧ T < 7 := by
      have := pickF_in (x := a4) (n := 7) (by decide)
      exact ⟨(pickF a4 7).toNat, by omega, by omega⟩
    have HPM := hid (fun W : World => pick6_any a3 36 W (by decide) (by decide))
    have HPT := hid (fun W : World => pick6_any a4 7 W (by decide) (by decide))
    rw [hM] at HPM
    rw [hT] at HPT
    obtain ⟨cs0, hcs0, hmk⟩ := make_int64 M (by omega)
    obtain ⟨cs1, hcs1, hmk1⟩ := make_progs T (by omega)
    have HMK1 := hid hmk1
    clear hmk1
    have f8' := frozen_of_blk (HC4.out.later (bnew (bid _) (.cells cs0 2))).box 8
    have r8' := cell_of_blk (HC4.out.later (bnew (bid _) (.cells cs0 2))).box 8
    simp only [Cfg.cs, List.getElem?_toArray, List.getElem?_cons_zero, List.getElem?_cons_succ] at r8'
    go_upto_region 8 with (go_at_call 9; (with_reducible refine (HPM.out _).mono ?_); rintro e w' ⟨rfl, rfl⟩)
    refine wp_rename (fun W => CB w q { c1 with locks := ls, conds := cs } { s with al := al, nl := nl, kl := kl, ac := ac, nc := nc, kc := kc, ai := some ⟨W4.heap.size, 0, none⟩, ni := M, ki := M } W) ((HC4.out.later (bnew (bid _) (.cells cs0 2))).put 8 (.slice (some ⟨W4.heap.size, 0, none⟩) M M) rfl) ?_
    generalize W4.heap.size = g4
    intro W5 hcb
    have HC5 := hid hcb
    clear hmk HPM f8 f8' r8' r0 r1 r2 r3 r4 r5 r6 r7 r8 r9 r10 r11 HC4 hM W4
    have f11 := frozen_of_blk hcb.box 11
    obtain ⟨r0, r1, r2, r3, r4, r5, r6, r7, r8, r9, r10, r11⟩ := cfg_facts hcb.box
    clear hcb
    have hmk1 := HMK1.out
    have f11' := frozen_of_blk (HC5.out.later (bnew (bid _) (.cells cs1 38))).box 11
    have r11' := cell_of_blk (HC5.out.later (bnew (bid _) (.cells cs1 38))).box 11
    simp only [Cfg.cs, List.getElem?_toArray, List.getElem?_cons_zero, List.getElem?_cons_succ] at r11'
    go_upto_region 9 with (go_at_call 9; (with_reducible refine (HPT.out _).mono ?_); rintro e w' ⟨rfl, rfl⟩)
    refine wp_rename (fun W => CB w q { c1 with locks := ls, conds := cs, progs := List.replicate T [] } { s with al := al, nl := nl, kl := kl, ac := ac, nc := nc, kc := kc, ai := some ⟨g4, 0, none⟩, ni := M, ki := M, ap := some ⟨W5.heap.size, 0, none⟩, np := T, kp := T } W ∧ ProgRow W (some ⟨W5.heap.size, 0, none⟩) T (List.replicate T [])) ⟨(HC5.out.later (bnew (bid _) (.cells cs1 38))).put 11 (.slice (some ⟨W5.heap.size, 0, none⟩) T T) rfl, progs_made hcs1 (lt_of_block HC5.out.box)⟩ ?_
    generalize W5.heap.size = g5
    rintro W6 ⟨hcb, hpr⟩
    clear hmk1 HPT f11 f11' r11' r0 r1 r2 r3 r4 r5 r6 r7 r8 r9 r10 r11 HC5 hT W5 hcs1 hcs0 HMK1
    have HC6 := hid hcb
    have HIN := hid (fun (W : World) (hW : Below W6.heap.size W6 W) => (⟨(HL.out.below hcb.below).below hW, (HC.out.below hcb.below).below hW, hpr.below hW, by dsimp only; omega, by dsimp only; omega, by dsimp only; omega, by dsimp only; omega⟩ : CfgIn W { c1 with locks := ls, conds := cs, progs := List.replicate T [] } { s with al := al, nl := nl, kl := kl, ac := ac, nc := nc, kc := kc, ai := some ⟨g4, 0, none⟩, ni := M, ki := M, ap := some ⟨g5, 0, none⟩, np := T, kp := T }))
    have HPE : Hid (∀ t : Nat, t < T → ({ c1 with locks := ls, conds := cs, progs := List.replicate T [] } : Cfg).progs[t]? = some []) := hid (fun t ht => by simp [ht])
    have HNP : Hid (({ s with al := al, nl := nl, kl := kl, ac := ac, nc := nc, kc := kc, ai := some ⟨g4, 0, none⟩, ni := M, ki := M, ap := some ⟨g5, 0, none⟩, np := T, kp := T } : CV).np = T) := hid rfl
    clear hcb hpr HL HC
    generalize ({ c1 with locks := ls, conds := cs, progs := List.replicate T [] } : Cfg) = cF at HC6 HIN HPE
    generalize ({ s with al := al, nl := nl, kl := kl, ac := ac, nc := nc, kc := kc, ai := some ⟨g4, 0, none⟩, ni := M, ki := M, ap := some ⟨g5, 0, none⟩, np := T, kp := T } : CV) = sF at HC6 HIN HNP
    have HAK := hid (fun (W : World) (hW : Below W6.heap.size W6 W) => asks_any (sb := sb) cF sF W (HE.out.below (bthen HC6.out.below hW)) (HIN.out W hW) (fun t ht W' hW' => refProg_empty cF sF t W' ((HIN.out W hW).below hW') ht (HPE.out t (by rw [← HNP.out]; exact ht))))
    clear HIN HPE HNP
    go_wp2_with (first | (go_at_call 6; go_must (refine (HTD.out _ HC6.out.below).mono ?_; rintro e w8 ⟨rfl, hb8⟩; have HB8 := hid hb8; obtain ⟨k0, k1, k2, k3, k4, k5, k6, k7, k8, k9, k10, k11⟩ := cfg_facts (HC6.out.later hb8).box; clear hb8)) | (go_at_call 8; go_must (refine (HAK.out _ HB8.out).mono ?_; rintro e w9 ⟨rfl, hb9⟩; have HB9 := hid (bthen HB8.out hb9); clear hb9)))
    go_ret
    exact ⟨rfl, bthen HC6.out.below HB9.out⟩

end Go.Proofs.YtblalejegjieaaaGreatDoor
