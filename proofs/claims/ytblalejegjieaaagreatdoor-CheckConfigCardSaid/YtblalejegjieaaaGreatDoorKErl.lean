/-
  What lies at package level: the type that errors.As asks for. What lies at package level, of which errors are made, out of a row's list. Arguments of layer 6, opened to their cells: a slice of locks.
-/
import Derived.Test.YtblalejegjieaaaGreatDoorLoneAs
import Derived.LaidHandle
import Derived.LaidLaws
import Derived.Test.YtblalejegjieaaaGreatDoorKFault
import Derived.Stop.LaidErr
import Derived.Test.YtblalejegjieaaaGreatDoorKCfg
import Derived.ChangeOld
import Derived.ProofKit
import Derived.Deep.Slices
import Derived.Deep.Fields
import Derived.OpenShut
namespace Go.Proofs.YtblalejegjieaaaGreatDoor
open Go.RowKit Go.ChangeShapes Go.WideShapes
set_option linter.unusedVariables false

theorem laid_et : Tryz.prog.globalNamed "errors.errorType" = some 10 := by kernel_rfl
theorem laid_rt : (Tryz.prog.cutTypes.find? (·.1 == "internal/reflectlite.rtype")).map (·.2) = some 128 := by kernel_rfl
theorem laid_oneRow : ((List.range Tryz.prog.types.size).filter fun t => Tryz.prog.rowNamed t [101, 114, 114, 111, 114]) = [46] := by kernel_rfl

/-- The plain rows, and the rows of types, where there are some. -/
theorem laid_parts {W : World} {l : List (String × DataW Unit)} {x : String × DataW Unit} (h : laidMetH Tryz.prog l W) (hm : x ∈ l.filter (fun x => x.2.handleName?.isSome)) :
    laidMet Tryz.prog (l.filter (fun x => x.2.handleName?.isNone)) W ∧ handlesMet Tryz.prog (l.filter (fun x => x.2.handleName?.isSome)) W := by
  unfold laidMetH at h
  generalize l.filter (fun x => x.2.handleName?.isSome) = hs at h hm ⊢
  cases hs with
  | nil => cases hm
  | cons a r => exact h

theorem errType_of {W : World} {l : List (String × DataW Unit)} (h : laidMetH Tryz.prog l W) (hm : ("errors.errorType", (.iface "internal/reflectlite.rtype" (.agg [.ptr (.lit (.string [101, 114, 114, 111, 114]))]) : DataW Unit)) ∈ l) : ErrType W := by
  obtain ⟨name, u, ty, e1, e2, e3, e4, e5⟩ := (laid_parts h (List.mem_filter.2 ⟨hm, rfl⟩)).2 _ (List.mem_filter.2 ⟨hm, rfl⟩)
  have en : name = [101, 114, 114, 111, 114] := (Option.some.inj e1).symm
  subst en
  obtain rfl := Option.some.inj (laid_rt.symm.trans e2)
  have hm : ty ∈ (List.range Tryz.prog.types.size).filter fun t => Tryz.prog.rowNamed t [101, 114, 114, 111, 114] := List.mem_filter.2 ⟨List.mem_range.2 e3, e4⟩
  rw [laid_oneRow] at hm
  obtain rfl := List.mem_singleton.1 hm
  have hh : typeHandle Tryz.prog 46 = .pointer (some ⟨11, 46, none⟩) := by kernel_rfl
  rw [hh] at e5
  simpa [ErrType] using World.var?_cell laid_et e5 0

end Go.Proofs.YtblalejegjieaaaGreatDoor

namespace Go.Proofs.YtblalejegjieaaaGreatDoor
open Go.RowKit Go.ChangeShapes Go.WideShapes
set_option linter.unusedVariables false

theorem laidMet_drop {P : Program} {W : World} : ∀ (k : Nat) {l : List (String × DataW Unit)}, laidMet P l W → laidMet P (l.drop k) W
  | 0, _, h => h
  | k + 1, [], h => h
  | k + 1, x :: r, h => laidMet_drop k (l := r) (laidMet.tail h)

theorem row_err (u : TypeId) (h : Tryz.prog.typeName? 3 u = some "*errors.errorString") : u = 149 := by
  have star : "*" ++ "errors.errorString" = "*errors.errorString" := by decide
  exact typeName_ptr_named (nm := "errors.errorString") (by rw [star]; kernel_rfl) (by kernel_rfl) (by decide) u (by rw [star]; exact h)

set_option maxRecDepth 100000 in
/-- One of the codes' errors: where it lies, what it says. -/
theorem sent_of {n : String} {text : List UInt8} {r : List (String × DataW Unit)} {W : World} {g : Nat} (h : laidMet Tryz.prog ((n, .iface "*errors.errorString" (.ptr (.agg [.lit (.string text)]))) :: r) W)
    (hg : Tryz.prog.globalNamed n = some g) (ht : (Tryz.prog.globals[g]?).map (·.type) = some 46) :
    ∃ a : Addr, W.cell? ⟨g, 0, none⟩ = some (errV 149 a) ∧ ErrAt W 149 a ∧ ∃ s : ByteArray, W.cell? a = some (.string s) ∧ s.data.toList = text := by
  obtain ⟨ps, hrest, _, hrows⟩ := h
  obtain ⟨g', ty, cs, fuel, p, q, e1, e2, hv, hd, _, rfl⟩ := hrest
  obtain rfl := Option.some.inj (hg.symm.trans e1)
  obtain rfl := Option.some.inj (ht.symm.trans e2)
  have hw : ∀ u v, cs.toList = [.iface u v] → Value.okWide Tryz.prog W .any 0 u v := fun u v hc => by
    have hc' : cs = #[.iface u v] := by rw [← Array.toArray_toList (xs := cs), hc]
    subst hc'
    refine (hrows g 0 (by simp [MemPlace.row])).2 u v ?_
    simpa using World.var?_cell hg hv 0
  obtain ⟨a, s, hc, h1, h2, _, rfl⟩ := errorString_of_trod Tryz.underlying46 row_err Tryz.underlying149 Tryz.underlying171 rfl rfl Tryz.underlying9 (by kernel_rfl) (by kernel_rfl) hd hw
  have hc' : cs = #[.iface 149 (.pointer (some a))] := by rw [← Array.toArray_toList (xs := cs), hc]
  subst hc'
  obtain ⟨c, t, hb⟩ := (hrows a.block a.off (by simp [MemPlace.row])).1
  exact ⟨a, by simpa using World.var?_cell hg hv 0, ⟨.inr rfl, c, t, hb⟩, s, h1, h2⟩

/-- What code k's error says. -/
def codeText (k : Nat) : List UInt8 := [99, 111, 100, 101, 32] ++ (if k = 10 then [49, 48] else [48 + UInt8.ofNat k])
theorem codeText_apart : ∀ j k, 1 ≤ j → j ≤ 10 → 1 ≤ k → k ≤ 10 → codeText j = codeText k → j = k := by
  have key : ∀ j : Fin 11, ∀ k : Fin 11, codeText j.1 = codeText k.1 → 1 ≤ j.1 → 1 ≤ k.1 → j = k := by decide
  intro j k h1 h2 h3 h4 h
  exact congrArg Fin.val (key ⟨j, by omega⟩ ⟨k, by omega⟩ h h1 h3)

@[reducible] def sentD (k : Nat) : DataW Unit := .iface "*errors.errorString" (.ptr (.agg [.lit (.string (codeText k))]))
set_option maxRecDepth 100000 in
theorem errs_of {W : World} {l : List (String × DataW Unit)} (h : laidMetH Tryz.prog l W) (hm : ("errors.errorType", (.iface "internal/reflectlite.rtype" (.agg [.ptr (.lit (.string [101, 114, 114, 111, 114]))]) : DataW Unit)) ∈ l) (k : Nat) (r : List (String × DataW Unit))
    (hk : (l.filter (fun x => x.2.handleName?.isNone)).drop k = ("syncope/blame.errArg", sentD 1) :: ("syncope/blame.errRange", sentD 2) :: ("syncope/blame.errText", sentD 3) :: ("syncope/blame.errLarge", sentD 4) :: ("syncope/blame.errBlock", sentD 5) :: ("syncope/blame.errLock", sentD 6) :: ("syncope/blame.errMode", sentD 7) :: ("syncope/blame.errOrder", sentD 8) :: ("syncope/blame.errCond", sentD 9) :: ("syncope/blame.errState", sentD 10) :: r) :
    ∃ sb, Errs sb W ∧ ∀ j, 1 ≤ j → j ≤ 10 → ∃ s : ByteArray, W.cell? (sb j) = some (.string s) ∧ s.data.toList = codeText j := by
  have hp := laidMet_drop k (laid_parts h (List.mem_filter.2 ⟨hm, rfl⟩)).1
  rw [hk] at hp
  obtain ⟨a1, c1, e1, s1, t1, x1⟩ := sent_of hp (show Tryz.prog.globalNamed "syncope/blame.errArg" = some 0 by kernel_rfl) (by kernel_rfl)
  obtain ⟨a2, c2, e2, s2, t2, x2⟩ := sent_of hp.tail (show Tryz.prog.globalNamed "syncope/blame.errRange" = some 1 by kernel_rfl) (by kernel_rfl)
  obtain ⟨a3, c3, e3, s3, t3, x3⟩ := sent_of hp.tail.tail (show Tryz.prog.globalNamed "syncope/blame.errText" = some 2 by kernel_rfl) (by kernel_rfl)
  obtain ⟨a4, c4, e4, s4, t4, x4⟩ := sent_of hp.tail.tail.tail (show Tryz.prog.globalNamed "syncope/blame.errLarge" = some 3 by kernel_rfl) (by kernel_rfl)
  obtain ⟨a5, c5, e5, s5, t5, x5⟩ := sent_of hp.tail.tail.tail.tail (show Tryz.prog.globalNamed "syncope/blame.errBlock" = some 4 by kernel_rfl) (by kernel_rfl)
  obtain ⟨a6, c6, e6, s6, t6, x6⟩ := sent_of hp.tail.tail.tail.tail.tail (show Tryz.prog.globalNamed "syncope/blame.errLock" = some 5 by kernel_rfl) (by kernel_rfl)
  obtain ⟨a7, c7, e7, s7, t7, x7⟩ := sent_of hp.tail.tail.tail.tail.tail.tail (show Tryz.prog.globalNamed "syncope/blame.errMode" = some 6 by kernel_rfl) (by kernel_rfl)
  obtain ⟨a8, c8, e8, s8, t8, x8⟩ := sent_of hp.tail.tail.tail.tail.tail.tail.tail (show Tryz.prog.globalNamed "syncope/blame.errOrder" = some 7 by kernel_rfl) (by kernel_rfl)
  obtain ⟨a9, c9, e9, s9, t9, x9⟩ := sent_of hp.tail.tail.tail.tail.tail.tail.tail.tail (show Tryz.prog.globalNamed "syncope/blame.errCond" = some 8 by kernel_rfl) (by kernel_rfl)
  obtain ⟨a10, c10, e10, s10, t10, x10⟩ := sent_of hp.tail.tail.tail.tail.tail.tail.tail.tail.tail (show Tryz.prog.globalNamed "syncope/blame.errState" = some 9 by kernel_rfl) (by kernel_rfl)
  let sb : Nat → Addr := fun k => match k with
    | 1 => a1 | 2 => a2 | 3 => a3 | 4 => a4 | 5 => a5 | 6 => a6 | 7 => a7 | 8 => a8 | 9 => a9 | _ => a10
  have hs : ∀ j, 1 ≤ j → j ≤ 10 → ErrAt W 149 (sb j) ∧ ∃ s : ByteArray, W.cell? (sb j) = some (.string s) ∧ s.data.toList = codeText j := by
    intro j h1 h2
    have : j = 1 ∨ j = 2 ∨ j = 3 ∨ j = 4 ∨ j = 5 ∨ j = 6 ∨ j = 7 ∨ j = 8 ∨ j = 9 ∨ j = 10 := by omega
    rcases this with rfl | rfl | rfl | rfl | rfl | rfl | rfl | rfl | rfl | rfl
    · exact ⟨e1, s1, t1, x1⟩
    · exact ⟨e2, s2, t2, x2⟩
    · exact ⟨e3, s3, t3, x3⟩
    · exact ⟨e4, s4, t4, x4⟩
    · exact ⟨e5, s5, t5, x5⟩
    · exact ⟨e6, s6, t6, x6⟩
    · exact ⟨e7, s7, t7, x7⟩
    · exact ⟨e8, s8, t8, x8⟩
    · exact ⟨e9, s9, t9, x9⟩
    · exact ⟨e10, s10, t10, x10⟩
  have b1 := World.block_lt_of_cell? W _ c1
  have b2 := World.block_lt_of_cell? W _ c2
  have b3 := World.block_lt_of_cell? W _ c3
  have b10 := World.block_lt_of_cell? W _ c10
  have b9 := World.block_lt_of_cell? W _ c9
  have b5 := World.block_lt_of_cell? W _ c5
  have bE := World.block_lt_of_cell? W _ (errType_of h hm)
  dsimp only at b1 b2 b3 b5 b9 b10 bE
  refine ⟨sb, ⟨⟨⟨c1, c2, c3, c4, c5, c6, c7, c8, c9, c10⟩, fun j h1 h2 => (hs j h1 h2).1, fun j k j1 j2 k1 k2 he => ?_, by omega⟩, errType_of h hm⟩, fun j h1 h2 => (hs j h1 h2).2⟩
  obtain ⟨s, q1, q2⟩ := (hs j j1 j2).2
  obtain ⟨s', q3, q4⟩ := (hs k k1 k2).2
  rw [he, q3] at q1
  have : s' = s := by simpa using q1
  subst this
  exact codeText_apart j k j1 j2 k1 k2 (by rw [← q2, ← q4])

end Go.Proofs.YtblalejegjieaaaGreatDoor

namespace Go.Proofs.YtblalejegjieaaaGreatDoor
open Go.ChangeShapes Go.WideShapes Go.ChangeAt Go.RowKit Go.Deep
set_option linter.unusedVariables false

theorem wf_bounds {n : Int} (h : (Lit.int .i64 n).wf = true) : -9223372036854775808 ≤ n ∧ n ≤ 9223372036854775807 := by
  simpa [Lit.wf, IntKind.min, IntKind.max, IntKind.signed, IntKind.bits] using h

set_option maxRecDepth 100000 in
/-- An argument that is a slice of locks: its cells. -/
theorem open_locks {H : Type} {enc : TypeId × Value → H} {W : World} {base : Nat} {sp : Nat → Bool} {held : Bool} {v : Value} {d : DataW H} {p : List MemPlace} {b0 : Nat} (hv : Value.okWide Tryz.prog W .any b0 30 v)
    (h : DataW.Trod enc Tryz.prog W base sp held 30 v d p) : ∃ a len cap ls, v = .slice a len cap ∧ LkRow W a len ls ∧ len ≤ maxLen := by
  obtain ⟨a, len, cap, rfl⟩ := okWide_slice Tryz.underlying30 hv
  obtain ⟨fuel, hf⟩ := h
  have hce : Tryz.prog.cellsOf 50 = 3 := by kernel_rfl
  have hc1 : Tryz.prog.cellsOf 3 = 1 := by kernel_rfl
  rcases open_slice Tryz.underlying30 hf with ⟨hcs, _⟩ | ⟨x, l, c, m, n, D, Pl, hcs, _, hl, hm, hmm, _, hel⟩
  · simp [Value.cells] at hcs
    obtain ⟨rfl, rfl, rfl⟩ := hcs
    exact ⟨none, 0, 0, [], rfl, ⟨rfl, .inl rfl, by simp⟩, Nat.zero_le _⟩
  · simp [Value.cells] at hcs
    obtain ⟨rfl, rfl, rfl⟩ := hcs
    have hlm : len ≤ m := by rw [hmm]; split <;> omega
    have key : ∀ i, i < len → ∃ r : Lk, r.Wf ∧ (W.cell? (x.add (i * 3)) = some (.int .i64 r.kind) ∧ W.cell? (x.add (i * 3 + 1)) = some (.int .i64 r.fr) ∧ W.cell? (x.add (i * 3 + 2)) = some (.int .i64 r.len)) := by
      intro i hi
      obtain ⟨cs', hc, ht'⟩ := hel i (by omega)
      rw [hce] at hc
      obtain ⟨ys, n', _, _, hlen, hyl, hfl⟩ := DataW.trod_struct Tryz.underlying50 ht'
      obtain ⟨_, hcl, hat⟩ := World.cells?_some hc
      match cs', hcl, hat, hfl with
      | [e0, e1, e2], _, hat, hfl =>
        match ys, hyl, hfl with
        | [y0, y1, y2], _, hfl =>
          have g0 := hfl 0 _ rfl
          have g1 := hfl 1 _ rfl
          have g2 := hfl 2 _ rfl
          change DataW.trod enc Tryz.prog W base sp held n' 3 ([e0, e1, e2].take (Tryz.prog.cellsOf 3)) = some y0 at g0
          change DataW.trod enc Tryz.prog W base sp held n' 3 ([e1, e2].take (Tryz.prog.cellsOf 3)) = some y1 at g1
          change DataW.trod enc Tryz.prog W base sp held n' 3 ([e2].take (Tryz.prog.cellsOf 3)) = some y2 at g2
          rw [hc1] at g0 g1 g2
          obtain ⟨z0, q0, _, w0⟩ := DataW.trod_int Tryz.underlying3 g0
          obtain ⟨z1, q1, _, w1⟩ := DataW.trod_int Tryz.underlying3 g1
          obtain ⟨z2, q2, _, w2⟩ := DataW.trod_int Tryz.underlying3 g2
          simp at q0 q1 q2
          subst q0 q1 q2
          have b1 := wf_bounds w1
          have b2 := wf_bounds w2
          have ad : ∀ j, x.add (i * 3 + j) = (x.add (i * 3)).add j := fun j => by rw [add_add]
          have ad0 : x.add (i * 3) = (x.add (i * 3)).add 0 := by rw [add_add, Nat.add_zero]
          refine ⟨⟨z0, z1, z2⟩, ⟨b1.1, b1.2, b2.1, b2.2⟩, ?_, ?_, ?_⟩
          · rw [ad0, hat 0 (by omega)]; rfl
          · rw [ad, hat 1 (by omega)]; rfl
          · rw [ad, hat 2 (by omega)]; rfl
    have list : ∀ n, n ≤ len → ∃ rs : List Lk, rs.length = n ∧ (∀ r ∈ rs, r.Wf) ∧ ∀ (k : Nat) (r : Lk), rs[k]? = some r → W.cell? (x.add (k * 3)) = some (.int .i64 r.kind) ∧ W.cell? (x.add (k * 3 + 1)) = some (.int .i64 r.fr) ∧ W.cell? (x.add (k * 3 + 2)) = some (.int .i64 r.len) := by
      intro n
      induction n with
      | zero => intro _; exact ⟨[], rfl, by simp, fun k r h => by simp at h⟩
      | succ n ih =>
        intro hn
        obtain ⟨rs, h1, h2, h3⟩ := ih (by omega)
        obtain ⟨r, hr, hc⟩ := key n (by omega)
        refine ⟨rs ++ [r], by simp [h1], fun q hq => ?_, fun k q hq => ?_⟩
        · rcases List.mem_append.1 hq with hq | hq
          · exact h2 q hq
          · simp at hq; subst hq; exact hr
        · by_cases hk : k < rs.length
          · rw [List.getElem?_append_left hk] at hq
            exact h3 k q hq
          · have hkl := (List.getElem?_eq_some_iff.1 hq).1
            simp at hkl
            have hkn : k = n := by omega
            subst hkn
            rw [List.getElem?_append_right (by omega)] at hq
            simp [h1] at hq
            subst hq
            exact hc
    obtain ⟨rs, h1, h2, h3⟩ := list len (Nat.le_refl _)
    refine ⟨some x, len, cap, rs, rfl, ⟨h1, ?_, h2⟩, Nat.le_trans hl hm⟩
    by_cases h0 : len = 0
    · exact .inl h0
    · obtain ⟨b, off, spn⟩ := x
      have hr0 : rs[0]? = some rs[0] := List.getElem?_eq_getElem (by omega)
      have hz := (h3 0 _ hr0).1
      have hsp : spn = none := by
        cases spn with
        | none => rfl
        | some q =>
          exfalso
          rw [Nat.zero_mul, add_zero] at hz
          simp only [World.cell?] at hz
          split at hz <;> simp at hz
      subst hsp
      have hlt := World.block_lt_of_cell? W _ hz
      rw [block_add] at hlt
      refine .inr ⟨b, off, rfl, hlt, fun k r hk => ?_⟩
      obtain ⟨k0, k1, k2⟩ := h3 k r hk
      rw [add_at] at k0 k1 k2
      exact ⟨k0, by rw [Nat.add_assoc]; exact k1, by rw [Nat.add_assoc]; exact k2⟩

end Go.Proofs.YtblalejegjieaaaGreatDoor
