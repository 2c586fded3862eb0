/-
  parts: from one round to the next.
-/
import Derived.Test.YtbobjhadckeieaaGreatDoorInv
namespace Go.Proofs.YtbobjhadckeieaaGreatDoor
open Go.RowKit Go.Shelf

theorem ownsRow_block {w : World} {B : Nat} {E : TypeId} {n k : Nat} {v : Value} {xs : List Value} (h : w.ownsRow B E n v k xs) {g : Nat} (hg : v.ownBlock = some g) : B ≤ g ∧ ∃ cs t, w.heap[g]? = some (.cells cs t (0, 0)) := by
  rcases h.2 with ⟨h', _⟩ | ⟨g', cap, cur, h', h1, h2, h3⟩
  · rw [h'] at hg; cases hg
  · rw [h'] at hg
    cases hg
    exact ⟨h1, _, _, h2⟩

theorem PInv.step {w W w2 w3 X0 V : World} {ks : List (Nat × Addr)} {k r g0 Bx D : Nat} {Ds : List Nat} {lv v1 : Value} {o1 : Obj} (hi : PInv w ks k lv r g0 Bx Ds W) (hk : k < ks.length)
    (hm2 : MetAt w2 r (ks.take (k + 1))) (hs2 : W.heap.size ≤ w2.heap.size) (hw23 : Wrote (fun j => lv.ownBlock = some j) (w2.alloc o1) w3)
    (hrow : w3.ownsRow w.heap.size 47 1 v1 (k + 1) ((ks.take (k + 1)).map fun x => errV x.1 x.2)) (hat : v1.ownBlock = lv.ownBlock ∨ v1.ownBlock = some (w2.alloc o1).heap.size)
    (hw3 : Wrote (fun j => j = Bx ∨ j = r ∨ lv.ownBlock = some j) W w3) (h5 : Below w3.heap.size w3 X0) (hwr : Wrote (fun j => j = Bx ∨ j = g0) X0 V) (hD : X0.heap.size ≤ D) (hDK : V.heap[D]? = some (.deferred (some [])))
    (hg : ∃ v, V.heap[g0]? = some (.cells #[v] 47 (0, 0)) ∧ (k + 1 < ks.length → v = errV (ks.getD (k + 1) k0).1 (ks.getD (k + 1) k0).2)) :
    PInv w ks (k + 1) v1 r g0 V.heap.size (D :: Ds) (V.alloc (.cells #[.slice (some ⟨g0, 0, none⟩) (if k + 1 < ks.length then 1 else 0) 1] 74)) := by
  obtain ⟨v0, hb0, _⟩ := hi.base
  have lg := lt_of_block hb0
  have lB := lt_of_block hi.box
  have lr := hi.met.lt
  have hnB : ¬ g0 = Bx := fun e => by have h := hi.box; rw [← e, hb0] at h; simp at h
  have hrB : ¬ r = Bx := fun e => by obtain ⟨es, cl, h1, _⟩ := hi.met; rw [e, hi.box] at h1; cases h1
  have hrg : ¬ r = g0 := fun e => by obtain ⟨es, cl, h1, _⟩ := hi.met; rw [e, hb0] at h1; cases h1
  have hlow := hi.low
  have hz23 : w2.heap.size + 1 ≤ w3.heap.size := by have := hw23.size; simpa using this
  have hz5 := h5.size
  have hzr := hwr.size
  have hV : Wrote (fun j => j = Bx ∨ j = g0) w3 (V.alloc (.cells #[.slice (some ⟨g0, 0, none⟩) (if k + 1 < ks.length then 1 else 0) 1] 74)) := ((Wrote.of_below h5 _).trans hwr).alloc _
  -- the block of the list
  have hown : ∀ g, v1.ownBlock = some g → w.heap.size ≤ g ∧ g ≠ g0 ∧ g ≠ V.heap.size ∧ g ≠ r ∧ g ≠ Bx := fun g hgv => by
    obtain ⟨b1, cs, t, b2⟩ := ownsRow_block hrow hgv
    have l3 := lt_of_block b2
    rcases hat with h | h
    · have := hi.other g (by rw [← h]; exact hgv)
      exact ⟨this.1, this.2.1, by omega, this.2.2.2, this.2.2.1⟩
    · rw [hgv] at h
      have := Option.some.inj h
      rw [size_alloc1] at this
      exact ⟨b1, by omega, by omega, by omega, by omega⟩
  have hmr : ¬ lv.ownBlock = some r := fun e => (hi.other r e).2.2.2 rfl
  have hdl : ∀ E ∈ Ds, E < W.heap.size := fun E hE => (Array.getElem?_eq_some_iff.1 (hi.marks.2 E hE).2).1
  refine ⟨hk, ownsRow_kept hrow hV (fun g hgv e => ?_), ?_, ?_, ?_, ⟨hlow.1, hlow.2.1, ?_⟩, fun g hgv => ?_, ⟨?_, ?_⟩, ?_⟩
  · have := hown g hgv
    rcases e with e | e
    · exact this.2.2.2.2 e
    · exact this.2.1 e
  · have h1 : MetAt w3 r (ks.take (k + 1)) := (hm2.kept (Wrote.of_below (bnew (bid w2) o1) (fun _ => False)) fun h => h).kept hw23 hmr
    exact h1.kept hV (fun e => by rcases e with e | e; exact hrB e; exact hrg e)
  · exact heap_alloc_new _ _
  · obtain ⟨v, h1, h2⟩ := hg
    exact ⟨v, (Below.heap_alloc _ _ _ (lt_of_block h1)).trans h1, h2⟩
  · have := hi.below.size
    omega
  · have := hown g hgv
    exact ⟨this.1, this.2.1, this.2.2.1, this.2.2.2.1⟩
  · refine List.nodup_cons.2 ⟨fun hm => ?_, hi.marks.1⟩
    have := hdl D hm
    omega
  · intro E hE
    rcases List.mem_cons.1 hE with rfl | hE
    · have := hi.below.size
      exact ⟨by omega, (Below.heap_alloc _ _ _ (Array.getElem?_eq_some_iff.1 hDK).1).trans hDK⟩
    · obtain ⟨h1, h2⟩ := hi.marks.2 E hE
      have n1 : ¬ E = Bx := fun e => by have h := hi.box; rw [← e, h2] at h; cases h
      have n2 : ¬ E = g0 := fun e => by rw [← e, h2] at hb0; cases hb0
      have n3 : ¬ E = r := fun e => by obtain ⟨es, cl, h3, _⟩ := hi.met; rw [← e, h2] at h3; cases h3
      have n4 : ¬ lv.ownBlock = some E := fun e => by obtain ⟨_, cs, t, h3⟩ := ownsRow_block hi.row e; rw [h2] at h3; cases h3
      refine ⟨h1, ((hV.block E (Nat.lt_of_lt_of_le (hdl E hE) hw3.size) (fun e => by rcases e with e | e; exact n1 e; exact n2 e)).trans (hw3.block E (hdl E hE) (fun e => by rcases e with e | e | e; exact n1 e; exact n3 e; exact n4 e))).trans h2⟩
  · have a1 : Below w.heap.size w w3 := hi.below.trans (hw3.below hi.below.size (fun j hj e => by
      rcases e with e | e | e
      · omega
      · omega
      · have := (hi.other j e).1; omega))
    exact a1.trans (hV.below a1.size (fun j hj e => by rcases e with e | e <;> omega))

theorem keeps_of_wrote {S : Nat → Prop} {V V' : World} (hw : Wrote S V V') (hs : ∀ j, S j → ∃ c t f, V.heap[j]? = some (.cells c t f)) : KeepsOthers V V' :=
  ⟨hw.size, fun k o hk ho => by
    refine (hw.block k (Array.getElem?_eq_some_iff.1 hk).1 (fun e => ?_)).trans hk
    obtain ⟨c, t, f, h⟩ := hs k e
    rw [hk] at h
    cases h
    cases ho⟩

/-- One more into the room that is there. -/
theorem run_append_in {VA : World} {g0 b2 : Nat} {v x : Value} (hg : VA.heap[g0]? = some (.cells #[v] 47 (0, 0))) (hc : VA.cell? ⟨b2, 0, none⟩ = some x) (h1 : x.oneCell' = true) :
    ∃ V2, (Builtin.append_ #[74, 74] 74 #[.slice (some ⟨g0, 0, none⟩) 0 1, .slice (some ⟨b2, 0, none⟩) 1 1]).run Tryz.prog VA = .ok (.slice (some ⟨g0, 0, none⟩) 1 1) V2 ∧
      V2.heap[g0]? = some (.cells #[x] 47 (0, 0)) ∧ Wrote (fun j => j = g0) VA V2 := by
  obtain ⟨i0, hi0, hz0, hz1, hz2⟩ := info_err
  have h := run_append_room (P := Tryz.prog) (w := VA) 74 74 47 i0 Tryz.underlying74 hi0 g0 0 1 #[v] hg ⟨b2, 0, none⟩ 1 1 [x] (by rw [hz1]; rfl)
    (fun j u hu => by
      cases j with
      | zero => cases hu; rw [add_zero]; exact hc
      | succ j => simp at hu) (fun u hu => by rw [List.mem_singleton.1 hu]; exact h1) (by decide) (by rw [hz1]; simp)
  refine ⟨_, h, ?_, ?_⟩
  · rw [setRow_heap VA g0 #[v] _ 47 (0, 0) hg]
    simp [hz1]
  · exact ⟨rfl, rfl, rfl, by simp, fun j _ hj => setRow_other VA g0 j _ hj⟩

end Go.Proofs.YtbobjhadckeieaaGreatDoor
