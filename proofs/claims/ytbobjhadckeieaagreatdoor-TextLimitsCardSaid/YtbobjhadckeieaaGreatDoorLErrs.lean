/-
  What lies at package level, of which errors are made, out of a row's list.
-/
import Derived.Test.YtbobjhadckeieaaGreatDoorLaid
import Derived.Stop.LaidErr
import Derived.Test.YtbobjhadckeieaaGreatDoorSents
import Derived.ChangeOld
import Derived.ProofKit
import Derived.Deep.Slices
import Derived.Deep.Fields
import Derived.OpenShut
namespace Go.Proofs.YtbobjhadckeieaaGreatDoor
open Go.RowKit Go.ChangeShapes Go.WideShapes
set_option linter.unusedVariables false

theorem laidMet_drop {P : Program} {W : World} : ∀ (k : Nat) {l : List (String × DataW Unit)}, laidMet P l W → laidMet P (l.drop k) W
  | 0, _, h => h
  | k + 1, [], h => h
  | k + 1, x :: r, h => laidMet_drop k (l := r) (laidMet.tail h)

theorem row_err (u : TypeId) (h : Tryz.prog.typeName? 3 u = some "*errors.errorString") : u = 208 := by
  have star : "*" ++ "errors.errorString" = "*errors.errorString" := by decide
  exact typeName_ptr_named (nm := "errors.errorString") (by rw [star]; kernel_rfl) (by kernel_rfl) (by decide) u (by rw [star]; exact h)

set_option maxRecDepth 100000 in
/-- One of the codes' errors: where it lies, what it says. -/
theorem sent_of {n : String} {text : List UInt8} {r : List (String × DataW Unit)} {W : World} {g : Nat} (h : laidMet Tryz.prog ((n, .iface "*errors.errorString" (.ptr (.agg [.lit (.string text)]))) :: r) W)
    (hg : Tryz.prog.globalNamed n = some g) (ht : (Tryz.prog.globals[g]?).map (·.type) = some 47) :
    ∃ a : Addr, W.cell? ⟨g, 0, none⟩ = some (errV 208 a) ∧ ErrAt W 208 a ∧ ∃ s : ByteArray, W.cell? a = some (.string s) ∧ s.data.toList = text := by
  obtain ⟨ps, hrest, _, hrows⟩ := h
  obtain ⟨g', ty, cs, fuel, p, q, e1, e2, hv, hd, _, rfl⟩ := hrest
  obtain rfl := Option.some.inj (hg.symm.trans e1)
  obtain rfl := Option.some.inj (ht.symm.trans e2)
  have hw : ∀ u v, cs.toList = [.iface u v] → Value.okWide Tryz.prog W .any 0 u v := fun u v hc => by
    have hc' : cs = #[.iface u v] := by rw [← Array.toArray_toList (xs := cs), hc]
    subst hc'
    refine (hrows g 0 (by simp [MemPlace.row])).2 u v ?_
    simpa using World.var?_cell hg hv 0
  obtain ⟨a, s, hc, h1, h2, _, rfl⟩ := errorString_of_trod Tryz.underlying47 row_err Tryz.underlying208 Tryz.underlying210 rfl rfl Tryz.underlying9 (by kernel_rfl) (by kernel_rfl) hd hw
  have hc' : cs = #[.iface 208 (.pointer (some a))] := by rw [← Array.toArray_toList (xs := cs), hc]
  subst hc'
  obtain ⟨c, t, hb⟩ := (hrows a.block a.off (by simp [MemPlace.row])).1
  exact ⟨a, by simpa using World.var?_cell hg hv 0, ⟨.inr rfl, c, t, hb⟩, s, h1, h2⟩

/-- What code k's error says. -/
def codeText (k : Nat) : List UInt8 := [99, 111, 100, 101, 32] ++ (if k = 10 then [49, 48] else [48 + UInt8.ofNat k])
theorem codeText_apart : ∀ j k, 1 ≤ j → j ≤ 10 → 1 ≤ k → k ≤ 10 → codeText j = codeText k → j = k := by
  have key : ∀ j : Fin 11, ∀ k : Fin 11, codeText j.1 = codeText k.1 → 1 ≤ j.1 → 1 ≤ k.1 → j = k := by decide
  intro j k h1 h2 h3 h4 h
  exact congrArg Fin.val (key ⟨j, by omega⟩ ⟨k, by omega⟩ h h1 h3)

@[reducible] def sentD (k : Nat) : DataW Unit := .iface "*errors.errorString" (.ptr (.agg [.lit (.string (codeText k))]))
set_option maxRecDepth 100000 in
theorem errs_of {W : World} {l : List (String × DataW Unit)} (h : laidMetH Tryz.prog l W) (hm : ("errors.errorType", (.iface "internal/reflectlite.rtype" (.agg [.ptr (.lit (.string [101, 114, 114, 111, 114]))]) : DataW Unit)) ∈ l) (k : Nat) (r : List (String × DataW Unit))
    (hk : (l.filter (fun x => x.2.handleName?.isNone)).drop k = ("syncope/blame.errArg", sentD 1) :: ("syncope/blame.errRange", sentD 2) :: ("syncope/blame.errText", sentD 3) :: ("syncope/blame.errLarge", sentD 4) :: ("syncope/blame.errBlock", sentD 5) :: ("syncope/blame.errLock", sentD 6) :: ("syncope/blame.errMode", sentD 7) :: ("syncope/blame.errOrder", sentD 8) :: ("syncope/blame.errCond", sentD 9) :: ("syncope/blame.errState", sentD 10) :: r) :
    ∃ sb, (Sents W sb ∧ ErrType W) ∧ ∀ j, 1 ≤ j → j ≤ 10 → ∃ s : ByteArray, W.cell? (sb j) = some (.string s) ∧ s.data.toList = codeText j := by
  have hp := laidMet_drop k (laid_parts h (List.mem_filter.2 ⟨hm, rfl⟩)).1
  rw [hk] at hp
  obtain ⟨a1, c1, e1, s1, t1, x1⟩ := sent_of hp (show Tryz.prog.globalNamed "syncope/blame.errArg" = some 0 by kernel_rfl) (by kernel_rfl)
  obtain ⟨a2, c2, e2, s2, t2, x2⟩ := sent_of hp.tail (show Tryz.prog.globalNamed "syncope/blame.errRange" = some 1 by kernel_rfl) (by kernel_rfl)
  obtain ⟨a3, c3, e3, s3, t3, x3⟩ := sent_of hp.tail.tail (show Tryz.prog.globalNamed "syncope/blame.errText" = some 2 by kernel_rfl) (by kernel_rfl)
  obtain ⟨a4, c4, e4, s4, t4, x4⟩ := sent_of hp.tail.tail.tail (show Tryz.prog.globalNamed "syncope/blame.errLarge" = some 3 by kernel_rfl) (by kernel_rfl)
  obtain ⟨a5, c5, e5, s5, t5, x5⟩ := sent_of hp.tail.tail.tail.tail (show Tryz.prog.globalNamed "syncope/blame.errBlock" = some 4 by kernel_rfl) (by kernel_rfl)
  obtain ⟨a6, c6, e6, s6, t6, x6⟩ := sent_of hp.tail.tail.tail.tail.tail (show Tryz.prog.globalNamed "syncope/blame.errLock" = some 5 by kernel_rfl) (by kernel_rfl)
  obtain ⟨a7, c7, e7, s7, t7, x7⟩ := sent_of hp.tail.tail.tail.tail.tail.tail (show Tryz.prog.globalNamed "syncope/blame.errMode" = some 6 by kernel_rfl) (by kernel_rfl)
  obtain ⟨a8, c8, e8, s8, t8, x8⟩ := sent_of hp.tail.tail.tail.tail.tail.tail.tail (show Tryz.prog.globalNamed "syncope/blame.errOrder" = some 7 by kernel_rfl) (by kernel_rfl)
  obtain ⟨a9, c9, e9, s9, t9, x9⟩ := sent_of hp.tail.tail.tail.tail.tail.tail.tail.tail (show Tryz.prog.globalNamed "syncope/blame.errCond" = some 8 by kernel_rfl) (by kernel_rfl)
  obtain ⟨a10, c10, e10, s10, t10, x10⟩ := sent_of hp.tail.tail.tail.tail.tail.tail.tail.tail.tail (show Tryz.prog.globalNamed "syncope/blame.errState" = some 9 by kernel_rfl) (by kernel_rfl)
  let sb : Nat → Addr := fun k => match k with
    | 1 => a1 | 2 => a2 | 3 => a3 | 4 => a4 | 5 => a5 | 6 => a6 | 7 => a7 | 8 => a8 | 9 => a9 | _ => a10
  have hs : ∀ j, 1 ≤ j → j ≤ 10 → ErrAt W 208 (sb j) ∧ ∃ s : ByteArray, W.cell? (sb j) = some (.string s) ∧ s.data.toList = codeText j := by
    intro j h1 h2
    have : j = 1 ∨ j = 2 ∨ j = 3 ∨ j = 4 ∨ j = 5 ∨ j = 6 ∨ j = 7 ∨ j = 8 ∨ j = 9 ∨ j = 10 := by omega
    rcases this with rfl | rfl | rfl | rfl | rfl | rfl | rfl | rfl | rfl | rfl
    · exact ⟨e1, s1, t1, x1⟩
    · exact ⟨e2, s2, t2, x2⟩
    · exact ⟨e3, s3, t3, x3⟩
    · exact ⟨e4, s4, t4, x4⟩
    · exact ⟨e5, s5, t5, x5⟩
    · exact ⟨e6, s6, t6, x6⟩
    · exact ⟨e7, s7, t7, x7⟩
    · exact ⟨e8, s8, t8, x8⟩
    · exact ⟨e9, s9, t9, x9⟩
    · exact ⟨e10, s10, t10, x10⟩
  have b1 := World.block_lt_of_cell? W _ c1
  have b2 := World.block_lt_of_cell? W _ c2
  have b3 := World.block_lt_of_cell? W _ c3
  have b10 := World.block_lt_of_cell? W _ c10
  have b9 := World.block_lt_of_cell? W _ c9
  have b5 := World.block_lt_of_cell? W _ c5
  have bE := World.block_lt_of_cell? W _ (errType_of h hm)
  dsimp only at b1 b2 b3 b5 b9 b10 bE
  refine ⟨sb, ⟨⟨⟨c1, c2, c3, c4, c5, c6, c7, c8, c9, c10⟩, fun j h1 h2 => (hs j h1 h2).1, fun j k j1 j2 k1 k2 he => ?_, by omega⟩, errType_of h hm⟩, fun j h1 h2 => (hs j h1 h2).2⟩
  obtain ⟨s, q1, q2⟩ := (hs j j1 j2).2
  obtain ⟨s', q3, q4⟩ := (hs k k1 k2).2
  rw [he, q3] at q1
  have : s' = s := by simpa using q1
  subst this
  exact codeText_apart j k j1 j2 k1 k2 (by rw [← q2, ← q4])

end Go.Proofs.YtbobjhadckeieaaGreatDoor
