/-
  Maps keyed by errors: interface values that hold pointers.
-/
import Derived.Test.YtblalejegjieaaaGreatDoorCalm
import Derived.LaidEqlPtr
import Derived.MapKept
import Derived.ChangeMaps4
namespace Go.Proofs.YtblalejegjieaaaGreatDoor
open Go.RowKit

/-- An error that is a pointer: to an At, or to one of errors.New. -/
abbrev errV (T : Nat) (b : Addr) : Value := .iface T (.pointer (some b))
abbrev k0 : Nat × Addr := (0, ⟨0, 0, none⟩)
structure ErrAt (w : World) (T : Nat) (b : Addr) : Prop where
  type : T = 76 ∨ T = 149
  block : ∃ c t, w.heap[b.block]? = some (.cells c t (0, 0))

theorem info_of {t : TypeId} (h : (Tryz.prog.info? t).map (·.comparable) = some true) : ∃ j, Tryz.prog.info? t = some j ∧ j.comparable = true := by
  cases hi : Tryz.prog.info? t with
  | none => rw [hi] at h; cases h
  | some j => exact ⟨j, rfl, by rw [hi] at h; simpa using h⟩
theorem size_of {t : TypeId} (h : (Tryz.prog.info? t).map (fun i => i.size != 0) = some true) : ∃ j, Tryz.prog.info? t = some j ∧ j.size ≠ 0 := by
  cases hi : Tryz.prog.info? t with
  | none => rw [hi] at h; cases h
  | some j => exact ⟨j, rfl, by rw [hi] at h; simpa using h⟩
theorem info_at : ∃ j, Tryz.prog.info? 76 = some j ∧ j.comparable = true := info_of (by kernel_rfl)
theorem info_str : ∃ j, Tryz.prog.info? 149 = some j ∧ j.comparable = true := info_of (by kernel_rfl)
theorem size_at : ∃ j, Tryz.prog.info? 75 = some j ∧ j.size ≠ 0 := size_of (by kernel_rfl)
theorem size_str : ∃ j, Tryz.prog.info? 171 = some j ∧ j.size ≠ 0 := size_of (by kernel_rfl)

theorem ErrAt.info {w : World} {T : Nat} {b : Addr} (h : ErrAt w T b) : ∃ j e je, Tryz.prog.info? T = some j ∧ j.comparable = true ∧ Tryz.prog.underlying T = some (.pointer e) ∧ Tryz.prog.info? e = some je ∧ je.size ≠ 0 := by
  rcases h.type with rfl | rfl
  · obtain ⟨j, h1, h2⟩ := info_at
    obtain ⟨je, h3, h4⟩ := size_at
    exact ⟨j, _, je, h1, h2, Tryz.underlying76, h3, h4⟩
  · obtain ⟨j, h1, h2⟩ := info_str
    obtain ⟨je, h3, h4⟩ := size_str
    exact ⟨j, _, je, h1, h2, Tryz.underlying149, h3, h4⟩

theorem run_equalIn_err (d : Nat) {w : World} {T T' : Nat} {b b' : Addr} (h : ErrAt w T b) (h' : ErrAt w T' b') :
    (Op.equalIn (d + 2) 46 (errV T b) (errV T' b')).run Tryz.prog w = .ok (decide (T = T' ∧ b = b')) w := by
  obtain ⟨j, e, je, i1, i2, i3, i4, i5⟩ := h.info
  obtain ⟨c, t, hb⟩ := h.block
  obtain ⟨c', t', hb'⟩ := h'.block
  by_cases ht : T = T'
  · subst ht
    by_cases hbb : b = b'
    · subst hbb
      simp [errV, Op.equalIn, run_underlying Tryz.underlying46, run_underlying i3, sizeOf, typeInfo, i1, i2, i4, i5, run_sameAddr_same]
    · have hne : b ≠ b' := hbb
      simp [errV, Op.equalIn, run_underlying Tryz.underlying46, run_underlying i3, sizeOf, typeInfo, i1, i2, i4, i5, hbb, run_sameAddr_other w hne hb hb']
  · simp [errV, Op.equalIn, run_underlying Tryz.underlying46, ht]

theorem run_equal_err {w : World} {T T' : Nat} {b b' : Addr} (h : ErrAt w T b) (h' : ErrAt w T' b') :
    (Op.equal 46 (errV T b) (errV T' b')).run Tryz.prog w = .ok (decide (T = T' ∧ b = b')) w := run_equalIn_err 9998 h h'

theorem run_checkKey_err' {w : World} {T : Nat} {b : Addr} (h : ErrAt w T b) (e : Bool) (d : Nat) :
    (Instr.checkKey e (d + 1 + 1) 46 (errV T b)).run Tryz.prog w = .ok () w := by
  obtain ⟨j, e, je, i1, i2, i3, i4, i5⟩ := h.info
  simp [errV, Instr.checkKey, run_underlying Tryz.underlying46, run_underlying i3, typeInfo, i1, i2]
theorem run_checkKey_err {w : World} {T : Nat} {b : Addr} (h : ErrAt w T b) (e : Bool) :
    (Instr.checkKey e 10000 46 (errV T b)).run Tryz.prog w = .ok () w := run_checkKey_err' h e 9998

/-- The entries of a map of errors to nothing: the keys, in the order in which they were put. -/
def metEntries (ks : List (Nat × Addr)) (es : List MapEntry) : Prop := es.map (fun e => (e.key, e.val)) = ks.map (fun k => (errV k.1 k.2, Value.agg #[]))

theorem run_findAsking {w : World} {T : Nat} {b : Addr} (h : ErrAt w T b) : ∀ (ks : List (Nat × Addr)) (es : List MapEntry) (i : Nat), metEntries ks es → (∀ k ∈ ks, ErrAt w k.1 k.2) →
    ∃ r, (Instr.findAsking 46 (errV T b) es i).run Tryz.prog w = .ok r w ∧ (r = none ↔ (T, b) ∉ ks) ∧ ∀ x, r = some x → x.2 = .agg #[] ∧ i ≤ x.1 ∧ ks[x.1 - i]? = some (T, b) := by
  intro ks
  induction ks with
  | nil =>
    intro es i hm _
    cases es with
    | nil => exact ⟨none, by simp [Instr.findAsking], by simp, fun x hx => by cases hx⟩
    | cons e es => simp [metEntries] at hm
  | cons k ks ih =>
    intro es i hm hk
    cases es with
    | nil => simp [metEntries] at hm
    | cons e es =>
      simp only [metEntries, List.map_cons, List.cons.injEq, Prod.mk.injEq] at hm
      obtain ⟨⟨he, hv⟩, hm⟩ := hm
      have hq := run_equal_err h (hk k (by simp))
      by_cases hkk : T = k.1 ∧ b = k.2
      · refine ⟨some (i, e.val), ?_, ?_, ?_⟩
        · rw [Instr.findAsking, he]
          rw [decide_eq_true hkk] at hq
          simp [hq]
        · obtain ⟨rfl, rfl⟩ := hkk
          simp
        · rintro x hx
          cases hx
          obtain ⟨rfl, rfl⟩ := hkk
          exact ⟨hv, Nat.le_refl _, by simp⟩
      · obtain ⟨r, h1, h2, h3⟩ := ih es (i + 1) hm (fun k' hk' => hk k' (by simp [hk']))
        refine ⟨r, ?_, ?_, ?_⟩
        · rw [Instr.findAsking, he]
          rw [decide_eq_false hkk] at hq
          simp [hq, h1]
        · rw [h2]
          have : ¬ (T, b) = k := fun q => hkk (by rw [← q]; exact ⟨rfl, rfl⟩)
          simp [this]
        · intro x hx
          obtain ⟨a1, a2, a3⟩ := h3 x hx
          refine ⟨a1, by omega, ?_⟩
          rw [show x.1 - i = (x.1 - (i + 1)) + 1 by omega]
          simpa using a3

theorem run_findKey_err {w : World} {T : Nat} {b : Addr} (h : ErrAt w T b) (ks : List (Nat × Addr)) (es : List MapEntry) (hm : metEntries ks es) (hk : ∀ k ∈ ks, ErrAt w k.1 k.2) :
    ∃ r, (Instr.findKey 46 (errV T b) es).run Tryz.prog w = .ok r w ∧ (r = none ↔ (T, b) ∉ ks) ∧ ∀ x, r = some x → x.2 = .agg #[] ∧ ks[x.1]? = some (T, b) := by
  cases es with
  | nil =>
    cases ks with
    | nil => exact ⟨none, by simp [Instr.findKey, Instr.findNow, run_underlying Tryz.underlying46], by simp, fun x hx => by cases hx⟩
    | cons k ks => simp [metEntries] at hm
  | cons e es =>
    obtain ⟨r, h1, h2, h3⟩ := run_findAsking h ks (e :: es) 0 hm hk
    refine ⟨r, ?_, h2, fun x hx => ⟨(h3 x hx).1, by simpa using (h3 x hx).2.2⟩⟩
    simp [Instr.findKey, Instr.findNow, Instr.sameNow, run_underlying Tryz.underlying46, h1]

/-- Block r is a map of errors to nothing, with these keys. -/
def MetAt (w : World) (r : Nat) (ks : List (Nat × Addr)) : Prop := ∃ es clock, w.heap[r]? = some (.map es clock) ∧ metEntries ks es.toList

theorem MetAt.lt {w : World} {r : Nat} {ks : List (Nat × Addr)} (h : MetAt w r ks) : r < w.heap.size := by
  obtain ⟨es, clock, h, _⟩ := h
  exact (Array.getElem?_eq_some_iff.1 h).1
theorem MetAt.kept {S : Nat → Prop} {w w' : World} {r : Nat} {ks : List (Nat × Addr)} (h : MetAt w r ks) (hw : Wrote S w w') (hs : ¬ S r) : MetAt w' r ks := by
  have hl := h.lt
  obtain ⟨es, clock, h1, h2⟩ := h
  exact ⟨es, clock, (hw.block r hl hs).trans h1, h2⟩
theorem ErrAt.kept {S : Nat → Prop} {w w' : World} {T : Nat} {b : Addr} (h : ErrAt w T b) (hw : Wrote S w w') (hs : ¬ S b.block) : ErrAt w' T b := by
  obtain ⟨c, t, hb⟩ := h.block
  exact ⟨h.type, c, t, (hw.block b.block (lt_of_block hb) hs).trans hb⟩

theorem run_lookup_met {w : World} {r : Nat} {ks : List (Nat × Addr)} (hm : MetAt w r ks) (hk : ∀ k ∈ ks, ErrAt w k.1 k.2) {T : Nat} {b : Addr} (h : ErrAt w T b) :
    (Instr.lookup 85 (.map (some r)) (errV T b) true).run Tryz.prog w = .ok (.tuple #[.agg #[], .bool (decide ((T, b) ∈ ks))]) w := by
  obtain ⟨es, clock, hb, hm⟩ := hm
  obtain ⟨x, h1, h2, h3⟩ := run_findKey_err h ks es.toList hm hk
  have hc := run_checkKey_err h es.isEmpty
  have hz : (zeroValue 120).run Tryz.prog w = .ok (.agg #[]) w := by first | exact Tryz.zeroValue120 w | simp [go_sem]
  cases x with
  | none =>
    have : (T, b) ∉ ks := h2.1 rfl
    simp [Instr.lookup, run_underlying Tryz.underlying85, MapKept.run_getObj_map hb, hc, h1, hz, this]
  | some x =>
    have : (T, b) ∈ ks := by
      by_cases hq : (T, b) ∈ ks
      · exact hq
      · have := h2.2 hq
        cases this
    obtain ⟨i, v⟩ := x
    obtain ⟨hv, _⟩ := h3 _ rfl
    have hv' : v = .agg #[] := hv
    subst hv'
    simp [Instr.lookup, run_underlying Tryz.underlying85, MapKept.run_getObj_map hb, hc, h1, this]

theorem Wrote.setBlock {w : World} (r : Nat) (o : Obj) : Wrote (fun k => k = r) w { w with heap := w.heap.setIfInBounds r o } :=
  ⟨rfl, rfl, rfl, by simp, fun k _ hk => by
    show (w.heap.setIfInBounds r o)[k]? = _
    rw [Array.getElem?_setIfInBounds, if_neg (fun e => hk e.symm)]⟩

theorem run_keyThatStays_err {w : World} (T : Nat) (b : Addr) : (Instr.keyThatStays (errV T b) (errV T b)).run Tryz.prog w = .ok (errV T b) w := by
  have h : Instr.sameBits 10000 (errV T b) (errV T b) = true := by
    show Instr.sameBits (9998 + 1 + 1) _ _ = true
    simp [errV, Instr.sameBits]
  simp [Instr.keyThatStays, h]

/-- The keys behind one more. -/
def putKey (ks : List (Nat × Addr)) (k : Nat × Addr) : List (Nat × Addr) := if k ∈ ks then ks else ks ++ [k]

theorem run_mapUpdate_met {w : World} {r : Nat} {ks : List (Nat × Addr)} (hm : MetAt w r ks) (hk : ∀ k ∈ ks, ErrAt w k.1 k.2) {T : Nat} {b : Addr} (h : ErrAt w T b) :
    ∃ w', (Instr.mapUpdate 85 (.map (some r)) (errV T b) (.agg #[])).run Tryz.prog w = .ok () w' ∧ MetAt w' r (putKey ks (T, b)) ∧ Wrote (fun k => k = r) w w' := by
  have hl := hm.lt
  obtain ⟨es, clock, hb, hm⟩ := hm
  obtain ⟨x, h1, h2, h3⟩ := run_findKey_err h ks es.toList hm hk
  have hc := run_checkKey_err h false
  cases x with
  | none =>
    have hn : (T, b) ∉ ks := h2.1 rfl
    refine ⟨{ w with heap := w.heap.setIfInBounds r (.map (es.push ⟨errV T b, .agg #[], clock⟩) (clock + 1)) }, ?_, ⟨es.push ⟨errV T b, .agg #[], clock⟩, clock + 1, ?_, ?_⟩, .setBlock _ _⟩
    · simp [Instr.mapUpdate, run_underlying Tryz.underlying85, MapKept.run_getObj_map hb, hc, h1, MapKept.run_setObj_map _ hb]
    · show (w.heap.setIfInBounds r _)[r]? = _
      rw [Array.getElem?_setIfInBounds, if_pos rfl, if_pos hl]
    · unfold metEntries at hm ⊢
      simp [putKey, hn, hm]
  | some x =>
    have hn : (T, b) ∈ ks := by
      by_cases hq : (T, b) ∈ ks
      · exact hq
      · have := h2.2 hq
        cases this
    obtain ⟨i, v⟩ := x
    obtain ⟨hv, hi⟩ := h3 _ rfl
    have hi' : ks[i]? = some (T, b) := hi
    have hen : (es.toList.map (fun e => (e.key, e.val)))[i]? = some (errV T b, .agg #[]) := by
      rw [hm, List.getElem?_map, hi']
      rfl
    rw [List.getElem?_map] at hen
    obtain ⟨e0, he0, hee⟩ := Option.map_eq_some_iff.1 hen
    have hek : e0.key = errV T b := (Prod.mk.inj hee).1
    have hev : e0.val = .agg #[] := (Prod.mk.inj hee).2
    have hes : es[i]? = some e0 := by simpa using he0
    refine ⟨{ w with heap := w.heap.setIfInBounds r (.map (es.modify i fun e => { e with key := errV T b, val := .agg #[] }) clock) }, ?_, ⟨es.modify i fun e => { e with key := errV T b, val := .agg #[] }, clock, ?_, ?_⟩, .setBlock _ _⟩
    · simp [Instr.mapUpdate, run_underlying Tryz.underlying85, MapKept.run_getObj_map hb, hc, h1, hes, hek, run_keyThatStays_err, MapKept.run_setObj_map _ hb]
    · show (w.heap.setIfInBounds r _)[r]? = _
      rw [Array.getElem?_setIfInBounds, if_pos rfl, if_pos hl]
    · unfold metEntries at hm ⊢
      rw [show putKey ks (T, b) = ks from if_pos hn, ← hm]
      apply List.ext_getElem?
      intro j
      simp only [List.getElem?_map, Array.getElem?_toList, Array.getElem?_modify]
      by_cases hj : i = j
      · subst hj
        simp [hes, hek, hev]
      · simp [hj]

end Go.Proofs.YtblalejegjieaaaGreatDoor
