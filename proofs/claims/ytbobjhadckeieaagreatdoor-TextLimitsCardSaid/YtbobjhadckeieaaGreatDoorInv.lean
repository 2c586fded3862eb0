/-
  parts: what holds between two rounds; the way out past the marks that ranges over functions leave.
-/
import Derived.Test.YtbobjhadckeieaaGreatDoorBack
import Derived.Maps.OwnIn
namespace Go.Proofs.YtbobjhadckeieaaGreatDoor
open Go.RowKit Go.Shelf

/-- The mark of a range over a function. -/
def mark (D : Nat) : Deferred := { target := .collected D, args := #[] }

theorem leaves_marks {F : Fence} {n : Nat} {fn : Func} {tmps : Array Value} {R : Ending → World → Prop} : ∀ (Ds : List Nat) (W : World), Ds.Nodup → (∀ D ∈ Ds, W.heap[D]? = some (.deferred (some []))) →
    (∀ W', Wrote (fun k => k ∈ Ds) W W' → ∃ v, (results fn tmps).run Tryz.prog W' = .ok v W' ∧ R (.returned v) W') → LeavesInM F n Tryz.prog fn tmps R (Ds.map mark) .returning W := by
  intro Ds
  induction Ds with
  | nil =>
    intro W _ _ h
    exact h W (Wrote.refl _ W)
  | cons D Ds ih =>
    intro W hn hd h
    obtain ⟨hn1, hn2⟩ := List.nodup_cons.1 hn
    have hw : Wrote (fun k => k = D) W (W.putObj D (.deferred none)) := (Wrote.refl _ W).grown (grownBy_putObj' W D (.deferred none)) (fun k e _ => by cases e; rfl)
    refine ⟨by simp, .inl ⟨D, W.putObj D (.deferred none), rfl, run_takeDeferred (hd D (by simp)), ?_⟩⟩
    refine ih _ hn2 (fun E hE => ?_) (fun W' hW' => h W' ?_)
    · have hl : E < W.heap.size := (Array.getElem?_eq_some_iff.1 (hd E (by simp [hE]))).1
      exact (hw.block E hl (fun e => hn1 (by rw [← e]; exact hE))).trans (hd E (by simp [hE]))
    · exact (hw.mono (fun k _ e => by rw [e]; simp)).trans (hW'.mono (fun k _ e => by simp [e]))

/-- An error and what it wraps, to the code's error at the end. -/
structure Chain (w : World) (ks : List (Nat × Addr)) : Prop where
  full : 0 < ks.length
  apart : ks.Nodup
  few : ks.length ≤ 1000
  more : ∀ k, k + 1 < ks.length → ∃ b t p, ks[k]? = some (73, ⟨b, 0, none⟩) ∧ AtAt w b t p (errV (ks.getD (k + 1) k0).1 (ks.getD (k + 1) k0).2)
  last : ∀ k, k + 1 = ks.length → ∃ b, ks[k]? = some (208, b) ∧ ErrAt w 208 b

theorem Chain.at {w : World} {ks : List (Nat × Addr)} (h : Chain w ks) : ∀ k ∈ ks, ErrAt w k.1 k.2 := by
  intro k hk
  obtain ⟨i, hi, he⟩ := List.mem_iff_getElem.1 hk
  by_cases h1 : i + 1 < ks.length
  · obtain ⟨b, t, p, h2, h3⟩ := h.more i h1
    rw [List.getElem?_eq_getElem hi, he] at h2
    obtain rfl := Option.some.inj h2
    exact h3.err
  · obtain ⟨b, h2, h3⟩ := h.last i (by omega)
    rw [List.getElem?_eq_getElem hi, he] at h2
    obtain rfl := Option.some.inj h2
    exact h3
theorem Chain.below {w w' : World} {ks : List (Nat × Addr)} (h : Chain w ks) (hb : Below w.heap.size w w') : Chain w' ks := by
  have hw := Wrote.of_below hb (fun _ => False)
  exact ⟨h.full, h.apart, h.few, fun k hk => by obtain ⟨b, t, p, h1, h2⟩ := h.more k hk; exact ⟨b, t, p, h1, h2.kept hw fun h => h⟩, fun k hk => by obtain ⟨b, h1, h2⟩ := h.last k hk; exact ⟨b, h1, h2.kept hw fun h => h⟩⟩

theorem ownsRow_kept {S : Nat → Prop} {w w' : World} {B : Nat} {E : TypeId} {n k : Nat} {v : Value} {xs : List Value} (h : w.ownsRow B E n v k xs) (hw : Wrote S w w') (hs : ∀ g, v.ownBlock = some g → ¬ S g) : w'.ownsRow B E n v k xs := by
  refine ⟨h.1, ?_⟩
  rcases h.2 with h' | ⟨g, cap, cur, h', h1, h2, h3⟩
  · exact .inl h'
  · refine .inr ⟨g, cap, cur, h', h1, (hw.block g (lt_of_block h2) (hs g (by rw [h']; rfl))).trans h2, h3⟩

/-- What holds when k parts are told. -/
structure PInv (w : World) (ks : List (Nat × Addr)) (k : Nat) (lv : Value) (r g0 Bx : Nat) (Ds : List Nat) (W : World) : Prop where
  le : k ≤ ks.length
  row : W.ownsRow w.heap.size 47 1 lv k ((ks.take k).map fun x => errV x.1 x.2)
  met : MetAt W r (ks.take k)
  box : W.heap[Bx]? = some (.cells #[.slice (some ⟨g0, 0, none⟩) (if k < ks.length then 1 else 0) 1] 74 (0, 0))
  base : ∃ v, W.heap[g0]? = some (.cells #[v] 47 (0, 0)) ∧ (k < ks.length → v = errV (ks.getD k k0).1 (ks.getD k k0).2)
  low : w.heap.size ≤ r ∧ w.heap.size ≤ g0 ∧ w.heap.size ≤ Bx
  other : ∀ g, lv.ownBlock = some g → w.heap.size ≤ g ∧ g ≠ g0 ∧ g ≠ Bx ∧ g ≠ r
  marks : Ds.Nodup ∧ ∀ D ∈ Ds, w.heap.size ≤ D ∧ W.heap[D]? = some (.deferred (some []))
  below : Below w.heap.size w W

theorem PInv.start {w : World} {ks : List (Nat × Addr)} (h : 0 < ks.length) :
    PInv w ks 0 (.slice none 0 0) w.heap.size (w.heap.size + 1) (w.heap.size + 1 + 1) [] (((w.alloc (.map #[] 0)).alloc (.cells #[errV (ks.getD 0 k0).1 (ks.getD 0 k0).2] 47)).alloc (.cells #[.slice (some ⟨w.heap.size + 1, 0, none⟩) 1 1] 74)) := by
  refine ⟨Nat.zero_le _, World.ownsRow_nil _ _ _ _, ⟨#[], 0, ?_, rfl⟩, ?_, ⟨_, ?_, fun _ => rfl⟩, ⟨Nat.le_refl _, by omega, by omega⟩, fun g e => (by cases e), ⟨List.nodup_nil, fun D hD => (by cases hD)⟩, bnew (bnew (bnew (bid w) _) _) _⟩
  · rw [Below.heap_alloc _ _ _ (by simp; omega), Below.heap_alloc _ _ _ (by simp)]
    exact heap_alloc_new _ _
  · rw [if_pos h]
    have := heap_alloc_new ((w.alloc (.map #[] 0)).alloc (.cells #[errV (ks.getD 0 k0).1 (ks.getD 0 k0).2] 47)) (.cells #[.slice (some ⟨w.heap.size + 1, 0, none⟩) 1 1] 74)
    rw [size_alloc2] at this
    exact this
  · rw [Below.heap_alloc _ _ _ (by simp)]
    have := heap_alloc_new (w.alloc (.map #[] 0)) (.cells #[errV (ks.getD 0 k0).1 (ks.getD 0 k0).2] 47)
    rw [size_alloc1] at this
    exact this

/-- What stands behind the k-th part: none, or one. -/
def nextOf (ks : List (Nat × Addr)) (k : Nat) : List (Nat × Addr) := if k + 1 < ks.length then [ks.getD (k + 1) k0] else []

theorem wrapped_any {w W : World} {ks : List (Nat × Addr)} (hc : Chain w ks) (hb : Below w.heap.size w W) {k T : Nat} {b : Addr} (hk : ks[k]? = some (T, b)) :
    Calls Tryz.prog 48 #[errV T b] W fun e W' => ∃ a len cap, e = .returned (.slice a len cap) ∧
      ((nextOf ks k = [] ∧ a = none ∧ len = 0 ∧ cap = 0) ∨ (∃ kk g, nextOf ks k = [kk] ∧ a = some ⟨g, 0, none⟩ ∧ len = 1 ∧ g < W'.heap.size ∧ W'.cell? ⟨g, 0, none⟩ = some (errV kk.1 kk.2))) ∧ Below W.heap.size W W' := by
  have hW := hc.below hb
  have hlt : k < ks.length := (List.getElem?_eq_some_iff.1 hk).1
  by_cases h1 : k + 1 < ks.length
  · obtain ⟨b', t, p, h2, h3⟩ := hW.more k h1
    rw [hk] at h2
    obtain ⟨rfl, rfl⟩ := Prod.mk.inj (Option.some.inj h2)
    refine (wrapped_at h3).mono ?_
    rintro e W' ⟨g, rfl, hg, hcg, hbw⟩
    refine ⟨_, _, _, rfl, .inr ⟨ks.getD (k + 1) k0, g, if_pos h1, rfl, rfl, World.block_lt_of_cell? W' _ hcg, hcg⟩, hbw⟩
  · obtain ⟨b', h2, h3⟩ := hW.last k (by omega)
    rw [hk] at h2
    obtain ⟨rfl, rfl⟩ := Prod.mk.inj (Option.some.inj h2)
    refine (wrapped_str W b).mono ?_
    rintro e W' ⟨rfl, hbw⟩
    exact ⟨_, _, _, rfl, .inl ⟨if_neg h1, rfl, rfl, rfl⟩, hbw⟩

theorem info_err : ∃ i, Tryz.prog.info? 47 = some i ∧ i.zero = some .nilIface ∧ i.size = 1 ∧ i.bytes = 16 :=
  info_parts (by kernel_rfl)

end Go.Proofs.YtbobjhadckeieaaGreatDoor
