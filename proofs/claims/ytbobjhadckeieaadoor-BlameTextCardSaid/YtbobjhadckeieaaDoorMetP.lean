/-
  Maps keyed by pointers to Ats.
-/
import Derived.Test.YtbobjhadckeieaaDoorMet
namespace Go.Proofs.YtbobjhadckeieaaDoor
open Go.RowKit

abbrev ptrV (b : Nat) : Value := .pointer (some ⟨b, 0, none⟩)
def PtrAt (w : World) (b : Nat) : Prop := ∃ c t, w.heap[b]? = some (.cells c t (0, 0))

theorem run_equal_ptr {w : World} {b b' : Nat} (h : PtrAt w b) (h' : PtrAt w b') :
    (Op.equal 51 (ptrV b) (ptrV b')).run Tryd.prog w = .ok (decide (b = b')) w := by
  obtain ⟨j, hj, hz⟩ := size_at
  obtain ⟨c, t, hb⟩ := h
  obtain ⟨c', t', hb'⟩ := h'
  have key : ∀ d : Nat, (Op.equalIn (d + 1) 51 (ptrV b) (ptrV b')).run Tryd.prog w = .ok (decide (b = b')) w := fun d => by
    by_cases hbb : b = b'
    · subst hbb
      simp [ptrV, Op.equalIn, run_underlying Tryd.underlying51, sizeOf, typeInfo, hj, run_sameAddr_same]
    · have hne : (⟨b, 0, none⟩ : Addr) ≠ ⟨b', 0, none⟩ := fun q => hbb (congrArg Addr.block q)
      simp [ptrV, Op.equalIn, run_underlying Tryd.underlying51, sizeOf, typeInfo, hj, hz, hbb, run_sameAddr_other w hne hb hb']
  exact key 9999

theorem run_checkKey_ptr (w : World) (b : Nat) (e : Bool) : (Instr.checkKey e 10000 51 (ptrV b)).run Tryd.prog w = .ok () w := by
  show (Instr.checkKey e (9999 + 1) _ _).run _ _ = _
  have key : ∀ d : Nat, (Instr.checkKey e (d + 1) 51 (ptrV b)).run Tryd.prog w = .ok () w := fun d => by simp [ptrV, Instr.checkKey, run_underlying Tryd.underlying51]
  exact key 9999

def metEntriesP (ks : List Nat) (es : List MapEntry) : Prop := es.map (fun e => (e.key, e.val)) = ks.map (fun k => (ptrV k, Value.agg #[]))

theorem run_findAskingP {w : World} {b : Nat} (h : PtrAt w b) : ∀ (ks : List Nat) (es : List MapEntry) (i : Nat), metEntriesP ks es → (∀ k ∈ ks, PtrAt w k) →
    ∃ r, (Instr.findAsking 51 (ptrV b) es i).run Tryd.prog w = .ok r w ∧ (r = none ↔ b ∉ ks) ∧ ∀ x, r = some x → x.2 = .agg #[] ∧ i ≤ x.1 ∧ ks[x.1 - i]? = some b := by
  intro ks
  induction ks with
  | nil =>
    intro es i hm _
    cases es with
    | nil => exact ⟨none, by simp [Instr.findAsking], by simp, fun x hx => by cases hx⟩
    | cons e es => simp [metEntriesP] at hm
  | cons k ks ih =>
    intro es i hm hk
    cases es with
    | nil => simp [metEntriesP] at hm
    | cons e es =>
      simp only [metEntriesP, List.map_cons, List.cons.injEq, Prod.mk.injEq] at hm
      obtain ⟨⟨he, hv⟩, hm⟩ := hm
      have hq := run_equal_ptr h (hk k (by simp))
      by_cases hkk : b = k
      · refine ⟨some (i, e.val), ?_, ?_, ?_⟩
        · rw [Instr.findAsking, he]
          rw [decide_eq_true hkk] at hq
          simp [hq]
        · subst hkk
          simp
        · rintro x hx
          cases hx
          subst hkk
          exact ⟨hv, Nat.le_refl _, by simp⟩
      · obtain ⟨r, h1, h2, h3⟩ := ih es (i + 1) hm (fun k' hk' => hk k' (by simp [hk']))
        refine ⟨r, ?_, ?_, ?_⟩
        · rw [Instr.findAsking, he]
          rw [decide_eq_false hkk] at hq
          simp [hq, h1]
        · rw [h2]
          simp [hkk]
        · intro x hx
          obtain ⟨a1, a2, a3⟩ := h3 x hx
          refine ⟨a1, by omega, ?_⟩
          rw [show x.1 - i = (x.1 - (i + 1)) + 1 by omega]
          simpa using a3

theorem run_findKeyP {w : World} {b : Nat} (h : PtrAt w b) (ks : List Nat) (es : List MapEntry) (hm : metEntriesP ks es) (hk : ∀ k ∈ ks, PtrAt w k) :
    ∃ r, (Instr.findKey 51 (ptrV b) es).run Tryd.prog w = .ok r w ∧ (r = none ↔ b ∉ ks) ∧ ∀ x, r = some x → x.2 = .agg #[] ∧ ks[x.1]? = some b := by
  cases es with
  | nil =>
    cases ks with
    | nil => exact ⟨none, by simp [Instr.findKey, Instr.findNow, run_underlying Tryd.underlying51], by simp, fun x hx => by cases hx⟩
    | cons k ks => simp [metEntriesP] at hm
  | cons e es =>
    obtain ⟨r, h1, h2, h3⟩ := run_findAskingP h ks (e :: es) 0 hm hk
    refine ⟨r, ?_, h2, fun x hx => ⟨(h3 x hx).1, by simpa using (h3 x hx).2.2⟩⟩
    simp [Instr.findKey, Instr.findNow, Instr.sameNow, run_underlying Tryd.underlying51, h1]

def MetAtP (w : World) (r : Nat) (ks : List Nat) : Prop := ∃ es clock, w.heap[r]? = some (.map es clock) ∧ metEntriesP ks es.toList
theorem MetAtP.lt {w : World} {r : Nat} {ks : List Nat} (h : MetAtP w r ks) : r < w.heap.size := by
  obtain ⟨es, clock, h, _⟩ := h
  exact (Array.getElem?_eq_some_iff.1 h).1
theorem MetAtP.kept {S : Nat → Prop} {w w' : World} {r : Nat} {ks : List Nat} (h : MetAtP w r ks) (hw : Wrote S w w') (hs : ¬ S r) : MetAtP w' r ks := by
  have hl := h.lt
  obtain ⟨es, clock, h1, h2⟩ := h
  exact ⟨es, clock, (hw.block r hl hs).trans h1, h2⟩

theorem run_lookup_metP {w : World} {r : Nat} {ks : List Nat} (hm : MetAtP w r ks) (hk : ∀ k ∈ ks, PtrAt w k) {b : Nat} (h : PtrAt w b) :
    (Instr.lookup 129 (.map (some r)) (ptrV b) true).run Tryd.prog w = .ok (.tuple #[.agg #[], .bool (decide (b ∈ ks))]) w := by
  obtain ⟨es, clock, hb, hm⟩ := hm
  obtain ⟨x, h1, h2, h3⟩ := run_findKeyP h ks es.toList hm hk
  have hc := run_checkKey_ptr w b es.isEmpty
  have hz : (zeroValue 130).run Tryd.prog w = .ok (.agg #[]) w := by first | exact Tryd.zeroValue130 w | simp [go_sem]
  cases x with
  | none =>
    have : b ∉ ks := h2.1 rfl
    simp [Instr.lookup, run_underlying Tryd.underlying129, MapKept.run_getObj_map hb, hc, h1, hz, this]
  | some x =>
    have : b ∈ ks := by
      by_cases hq : b ∈ ks
      · exact hq
      · have := h2.2 hq
        cases this
    obtain ⟨i, v⟩ := x
    obtain ⟨hv, _⟩ := h3 _ rfl
    have hv' : v = .agg #[] := hv
    subst hv'
    simp [Instr.lookup, run_underlying Tryd.underlying129, MapKept.run_getObj_map hb, hc, h1, this]

theorem run_mapUpdate_metP {w : World} {r : Nat} {ks : List Nat} (hm : MetAtP w r ks) (hk : ∀ k ∈ ks, PtrAt w k) {b : Nat} (h : PtrAt w b) (hn : b ∉ ks) :
    ∃ w', (Instr.mapUpdate 129 (.map (some r)) (ptrV b) (.agg #[])).run Tryd.prog w = .ok () w' ∧ MetAtP w' r (ks ++ [b]) ∧ Wrote (fun k => k = r) w w' := by
  have hl := hm.lt
  obtain ⟨es, clock, hb, hm⟩ := hm
  obtain ⟨x, h1, h2, h3⟩ := run_findKeyP h ks es.toList hm hk
  have hc := run_checkKey_ptr w b false
  obtain rfl : x = none := h2.2 hn
  refine ⟨{ w with heap := w.heap.setIfInBounds r (.map (es.push ⟨ptrV b, .agg #[], clock⟩) (clock + 1)) }, ?_, ⟨es.push ⟨ptrV b, .agg #[], clock⟩, clock + 1, ?_, ?_⟩, .setBlock _ _⟩
  · simp [Instr.mapUpdate, run_underlying Tryd.underlying129, MapKept.run_getObj_map hb, hc, h1, MapKept.run_setObj_map _ hb]
  · show (w.heap.setIfInBounds r _)[r]? = _
    rw [Array.getElem?_setIfInBounds, if_pos rfl, if_pos hl]
  · unfold metEntriesP at hm ⊢
    simp [hm]

end Go.Proofs.YtbobjhadckeieaaDoor
