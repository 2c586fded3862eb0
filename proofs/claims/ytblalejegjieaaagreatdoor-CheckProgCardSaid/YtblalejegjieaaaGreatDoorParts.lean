/-
  parts: what holds between two rounds; the way out past the marks that ranges over functions leave. parts: from one round to the next. parts: an error and all that it wraps.
-/
import Derived.Test.YtblalejegjieaaaGreatDoorBack
import Derived.Maps.OwnIn
import Derived.Maps.AppendAt
namespace Go.Proofs.YtblalejegjieaaaGreatDoor
open Go.RowKit Go.Shelf

/-- The mark of a range over a function. -/
def mark (D : Nat) : Deferred := { target := .collected D, args := #[] }

theorem leaves_marks {F : Fence} {n : Nat} {fn : Func} {tmps : Array Value} {R : Ending → World → Prop} : ∀ (Ds : List Nat) (W : World), Ds.Nodup → (∀ D ∈ Ds, W.heap[D]? = some (.deferred (some []))) →
    (∀ W', Wrote (fun k => k ∈ Ds) W W' → ∃ v, (results fn tmps).run Tryz.prog W' = .ok v W' ∧ R (.returned v) W') → LeavesInM F n Tryz.prog fn tmps R (Ds.map mark) .returning W := by
  intro Ds
  induction Ds with
  | nil =>
    intro W _ _ h
    exact h W (Wrote.refl _ W)
  | cons D Ds ih =>
    intro W hn hd h
    obtain ⟨hn1, hn2⟩ := List.nodup_cons.1 hn
    have hw : Wrote (fun k => k = D) W (W.putObj D (.deferred none)) := (Wrote.refl _ W).grown (grownBy_putObj' W D (.deferred none)) (fun k e _ => by cases e; rfl)
    refine ⟨by simp, .inl ⟨D, W.putObj D (.deferred none), rfl, run_takeDeferred (hd D (by simp)), ?_⟩⟩
    refine ih _ hn2 (fun E hE => ?_) (fun W' hW' => h W' ?_)
    · have hl : E < W.heap.size := (Array.getElem?_eq_some_iff.1 (hd E (by simp [hE]))).1
      exact (hw.block E hl (fun e => hn1 (by rw [← e]; exact hE))).trans (hd E (by simp [hE]))
    · exact (hw.mono (fun k _ e => by rw [e]; simp)).trans (hW'.mono (fun k _ e => by simp [e]))

/-- An error and what it wraps, to the code's error at the end. -/
structure Chain (w : World) (ks : List (Nat × Addr)) : Prop where
  full : 0 < ks.length
  apart : ks.Nodup
  few : ks.length ≤ 1000
  more : ∀ k, k + 1 < ks.length → ∃ b t p, ks[k]? = some (76, ⟨b, 0, none⟩) ∧ AtAt w b t p (errV (ks.getD (k + 1) k0).1 (ks.getD (k + 1) k0).2)
  last : ∀ k, k + 1 = ks.length → ∃ b, ks[k]? = some (149, b) ∧ ErrAt w 149 b

theorem Chain.at {w : World} {ks : List (Nat × Addr)} (h : Chain w ks) : ∀ k ∈ ks, ErrAt w k.1 k.2 := by
  intro k hk
  obtain ⟨i, hi, he⟩ := List.mem_iff_getElem.1 hk
  by_cases h1 : i + 1 < ks.length
  · obtain ⟨b, t, p, h2, h3⟩ := h.more i h1
    rw [List.getElem?_eq_getElem hi, he] at h2
    obtain rfl := Option.some.inj h2
    exact h3.err
  · obtain ⟨b, h2, h3⟩ := h.last i (by omega)
    rw [List.getElem?_eq_getElem hi, he] at h2
    obtain rfl := Option.some.inj h2
    exact h3
theorem Chain.below {w w' : World} {ks : List (Nat × Addr)} (h : Chain w ks) (hb : Below w.heap.size w w') : Chain w' ks := by
  have hw := Wrote.of_below hb (fun _ => False)
  exact ⟨h.full, h.apart, h.few, fun k hk => by obtain ⟨b, t, p, h1, h2⟩ := h.more k hk; exact ⟨b, t, p, h1, h2.kept hw fun h => h⟩, fun k hk => by obtain ⟨b, h1, h2⟩ := h.last k hk; exact ⟨b, h1, h2.kept hw fun h => h⟩⟩

theorem ownsRow_kept {S : Nat → Prop} {w w' : World} {B : Nat} {E : TypeId} {n k : Nat} {v : Value} {xs : List Value} (h : w.ownsRow B E n v k xs) (hw : Wrote S w w') (hs : ∀ g, v.ownBlock = some g → ¬ S g) : w'.ownsRow B E n v k xs := by
  refine ⟨h.1, ?_⟩
  rcases h.2 with h' | ⟨g, cap, cur, h', h1, h2, h3⟩
  · exact .inl h'
  · refine .inr ⟨g, cap, cur, h', h1, (hw.block g (lt_of_block h2) (hs g (by rw [h']; rfl))).trans h2, h3⟩

/-- What holds when k parts are told. -/
structure PInv (w : World) (ks : List (Nat × Addr)) (k : Nat) (lv : Value) (r g0 Bx : Nat) (Ds : List Nat) (W : World) : Prop where
  le : k ≤ ks.length
  row : W.ownsRow w.heap.size 46 1 lv k ((ks.take k).map fun x => errV x.1 x.2)
  met : MetAt W r (ks.take k)
  box : W.heap[Bx]? = some (.cells #[.slice (some ⟨g0, 0, none⟩) (if k < ks.length then 1 else 0) 1] 63 (0, 0))
  base : ∃ v, W.heap[g0]? = some (.cells #[v] 46 (0, 0)) ∧ (k < ks.length → v = errV (ks.getD k k0).1 (ks.getD k k0).2)
  low : w.heap.size ≤ r ∧ w.heap.size ≤ g0 ∧ w.heap.size ≤ Bx
  other : ∀ g, lv.ownBlock = some g → w.heap.size ≤ g ∧ g ≠ g0 ∧ g ≠ Bx ∧ g ≠ r
  marks : Ds.Nodup ∧ ∀ D ∈ Ds, w.heap.size ≤ D ∧ W.heap[D]? = some (.deferred (some []))
  below : Below w.heap.size w W

theorem PInv.start {w : World} {ks : List (Nat × Addr)} (h : 0 < ks.length) :
    PInv w ks 0 (.slice none 0 0) w.heap.size (w.heap.size + 1) (w.heap.size + 1 + 1) [] (((w.alloc (.map #[] 0)).alloc (.cells #[errV (ks.getD 0 k0).1 (ks.getD 0 k0).2] 46)).alloc (.cells #[.slice (some ⟨w.heap.size + 1, 0, none⟩) 1 1] 63)) := by
  refine ⟨Nat.zero_le _, World.ownsRow_nil _ _ _ _, ⟨#[], 0, ?_, rfl⟩, ?_, ⟨_, ?_, fun _ => rfl⟩, ⟨Nat.le_refl _, by omega, by omega⟩, fun g e => (by cases e), ⟨List.nodup_nil, fun D hD => (by cases hD)⟩, bnew (bnew (bnew (bid w) _) _) _⟩
  · rw [Below.heap_alloc _ _ _ (by simp; omega), Below.heap_alloc _ _ _ (by simp)]
    exact heap_alloc_new _ _
  · rw [if_pos h]
    have := heap_alloc_new ((w.alloc (.map #[] 0)).alloc (.cells #[errV (ks.getD 0 k0).1 (ks.getD 0 k0).2] 46)) (.cells #[.slice (some ⟨w.heap.size + 1, 0, none⟩) 1 1] 63)
    rw [size_alloc2] at this
    exact this
  · rw [Below.heap_alloc _ _ _ (by simp)]
    have := heap_alloc_new (w.alloc (.map #[] 0)) (.cells #[errV (ks.getD 0 k0).1 (ks.getD 0 k0).2] 46)
    rw [size_alloc1] at this
    exact this

/-- What stands behind the k-th part: none, or one. -/
def nextOf (ks : List (Nat × Addr)) (k : Nat) : List (Nat × Addr) := if k + 1 < ks.length then [ks.getD (k + 1) k0] else []

theorem wrapped_any {w W : World} {ks : List (Nat × Addr)} (hc : Chain w ks) (hb : Below w.heap.size w W) {k T : Nat} {b : Addr} (hk : ks[k]? = some (T, b)) :
    Calls Tryz.prog 43 #[errV T b] W fun e W' => ∃ a len cap, e = .returned (.slice a len cap) ∧
      ((nextOf ks k = [] ∧ a = none ∧ len = 0 ∧ cap = 0) ∨ (∃ kk g, nextOf ks k = [kk] ∧ a = some ⟨g, 0, none⟩ ∧ len = 1 ∧ g < W'.heap.size ∧ W'.cell? ⟨g, 0, none⟩ = some (errV kk.1 kk.2))) ∧ Below W.heap.size W W' := by
  have hW := hc.below hb
  have hlt : k < ks.length := (List.getElem?_eq_some_iff.1 hk).1
  by_cases h1 : k + 1 < ks.length
  · obtain ⟨b', t, p, h2, h3⟩ := hW.more k h1
    rw [hk] at h2
    obtain ⟨rfl, rfl⟩ := Prod.mk.inj (Option.some.inj h2)
    refine (wrapped_at h3).mono ?_
    rintro e W' ⟨g, rfl, hg, hcg, hbw⟩
    refine ⟨_, _, _, rfl, .inr ⟨ks.getD (k + 1) k0, g, if_pos h1, rfl, rfl, World.block_lt_of_cell? W' _ hcg, hcg⟩, hbw⟩
  · obtain ⟨b', h2, h3⟩ := hW.last k (by omega)
    rw [hk] at h2
    obtain ⟨rfl, rfl⟩ := Prod.mk.inj (Option.some.inj h2)
    refine (wrapped_str W b).mono ?_
    rintro e W' ⟨rfl, hbw⟩
    exact ⟨_, _, _, rfl, .inl ⟨if_neg h1, rfl, rfl, rfl⟩, hbw⟩

theorem info_err : ∃ i, Tryz.prog.info? 46 = some i ∧ i.zero = some .nilIface ∧ i.size = 1 ∧ i.bytes = 16 :=
  info_parts (by kernel_rfl)

end Go.Proofs.YtblalejegjieaaaGreatDoor

namespace Go.Proofs.YtblalejegjieaaaGreatDoor
open Go.RowKit Go.Shelf

theorem ownsRow_block {w : World} {B : Nat} {E : TypeId} {n k : Nat} {v : Value} {xs : List Value} (h : w.ownsRow B E n v k xs) {g : Nat} (hg : v.ownBlock = some g) : B ≤ g ∧ ∃ cs t, w.heap[g]? = some (.cells cs t (0, 0)) := by
  rcases h.2 with ⟨h', _⟩ | ⟨g', cap, cur, h', h1, h2, h3⟩
  · rw [h'] at hg; cases hg
  · rw [h'] at hg
    cases hg
    exact ⟨h1, _, _, h2⟩

theorem PInv.step {w W w2 w3 X0 V : World} {ks : List (Nat × Addr)} {k r g0 Bx D : Nat} {Ds : List Nat} {lv v1 : Value} {o1 : Obj} (hi : PInv w ks k lv r g0 Bx Ds W) (hk : k < ks.length)
    (hm2 : MetAt w2 r (ks.take (k + 1))) (hs2 : W.heap.size ≤ w2.heap.size) (hw23 : Wrote (fun j => lv.ownBlock = some j) (w2.alloc o1) w3)
    (hrow : w3.ownsRow w.heap.size 46 1 v1 (k + 1) ((ks.take (k + 1)).map fun x => errV x.1 x.2)) (hat : v1.ownBlock = lv.ownBlock ∨ v1.ownBlock = some (w2.alloc o1).heap.size)
    (hw3 : Wrote (fun j => j = Bx ∨ j = r ∨ lv.ownBlock = some j) W w3) (h5 : Below w3.heap.size w3 X0) (hwr : Wrote (fun j => j = Bx ∨ j = g0) X0 V) (hD : X0.heap.size ≤ D) (hDK : V.heap[D]? = some (.deferred (some [])))
    (hg : ∃ v, V.heap[g0]? = some (.cells #[v] 46 (0, 0)) ∧ (k + 1 < ks.length → v = errV (ks.getD (k + 1) k0).1 (ks.getD (k + 1) k0).2)) :
    PInv w ks (k + 1) v1 r g0 V.heap.size (D :: Ds) (V.alloc (.cells #[.slice (some ⟨g0, 0, none⟩) (if k + 1 < ks.length then 1 else 0) 1] 63)) := by
  obtain ⟨v0, hb0, _⟩ := hi.base
  have lg := lt_of_block hb0
  have lB := lt_of_block hi.box
  have lr := hi.met.lt
  have hnB : ¬ g0 = Bx := fun e => by have h := hi.box; rw [← e, hb0] at h; simp at h
  have hrB : ¬ r = Bx := fun e => by obtain ⟨es, cl, h1, _⟩ := hi.met; rw [e, hi.box] at h1; cases h1
  have hrg : ¬ r = g0 := fun e => by obtain ⟨es, cl, h1, _⟩ := hi.met; rw [e, hb0] at h1; cases h1
  have hlow := hi.low
  have hz23 : w2.heap.size + 1 ≤ w3.heap.size := by have := hw23.size; simpa using this
  have hz5 := h5.size
  have hzr := hwr.size
  have hV : Wrote (fun j => j = Bx ∨ j = g0) w3 (V.alloc (.cells #[.slice (some ⟨g0, 0, none⟩) (if k + 1 < ks.length then 1 else 0) 1] 63)) := ((Wrote.of_below h5 _).trans hwr).alloc _
  -- the block of the list
  have hown : ∀ g, v1.ownBlock = some g → w.heap.size ≤ g ∧ g ≠ g0 ∧ g ≠ V.heap.size ∧ g ≠ r ∧ g ≠ Bx := fun g hgv => by
    obtain ⟨b1, cs, t, b2⟩ := ownsRow_block hrow hgv
    have l3 := lt_of_block b2
    rcases hat with h | h
    · have := hi.other g (by rw [← h]; exact hgv)
      exact ⟨this.1, this.2.1, by omega, this.2.2.2, this.2.2.1⟩
    · rw [hgv] at h
      have := Option.some.inj h
      rw [size_alloc1] at this
      exact ⟨b1, by omega, by omega, by omega, by omega⟩
  have hmr : ¬ lv.ownBlock = some r := fun e => (hi.other r e).2.2.2 rfl
  have hdl : ∀ E ∈ Ds, E < W.heap.size := fun E hE => (Array.getElem?_eq_some_iff.1 (hi.marks.2 E hE).2).1
  refine ⟨hk, ownsRow_kept hrow hV (fun g hgv e => ?_), ?_, ?_, ?_, ⟨hlow.1, hlow.2.1, ?_⟩, fun g hgv => ?_, ⟨?_, ?_⟩, ?_⟩
  · have := hown g hgv
    rcases e with e | e
    · exact this.2.2.2.2 e
    · exact this.2.1 e
  · have h1 : MetAt w3 r (ks.take (k + 1)) := (hm2.kept (Wrote.of_below (bnew (bid w2) o1) (fun _ => False)) fun h => h).kept hw23 hmr
    exact h1.kept hV (fun e => by rcases e with e | e; exact hrB e; exact hrg e)
  · exact heap_alloc_new _ _
  · obtain ⟨v, h1, h2⟩ := hg
    exact ⟨v, (Below.heap_alloc _ _ _ (lt_of_block h1)).trans h1, h2⟩
  · have := hi.below.size
    omega
  · have := hown g hgv
    exact ⟨this.1, this.2.1, this.2.2.1, this.2.2.2.1⟩
  · refine List.nodup_cons.2 ⟨fun hm => ?_, hi.marks.1⟩
    have := hdl D hm
    omega
  · intro E hE
    rcases List.mem_cons.1 hE with rfl | hE
    · have := hi.below.size
      exact ⟨by omega, (Below.heap_alloc _ _ _ (Array.getElem?_eq_some_iff.1 hDK).1).trans hDK⟩
    · obtain ⟨h1, h2⟩ := hi.marks.2 E hE
      have n1 : ¬ E = Bx := fun e => by have h := hi.box; rw [← e, h2] at h; cases h
      have n2 : ¬ E = g0 := fun e => by rw [← e, h2] at hb0; cases hb0
      have n3 : ¬ E = r := fun e => by obtain ⟨es, cl, h3, _⟩ := hi.met; rw [← e, h2] at h3; cases h3
      have n4 : ¬ lv.ownBlock = some E := fun e => by obtain ⟨_, cs, t, h3⟩ := ownsRow_block hi.row e; rw [h2] at h3; cases h3
      refine ⟨h1, ((hV.block E (Nat.lt_of_lt_of_le (hdl E hE) hw3.size) (fun e => by rcases e with e | e; exact n1 e; exact n2 e)).trans (hw3.block E (hdl E hE) (fun e => by rcases e with e | e | e; exact n1 e; exact n3 e; exact n4 e))).trans h2⟩
  · have a1 : Below w.heap.size w w3 := hi.below.trans (hw3.below hi.below.size (fun j hj e => by
      rcases e with e | e | e
      · omega
      · omega
      · have := (hi.other j e).1; omega))
    exact a1.trans (hV.below a1.size (fun j hj e => by rcases e with e | e <;> omega))

theorem keeps_of_wrote {S : Nat → Prop} {V V' : World} (hw : Wrote S V V') (hs : ∀ j, S j → ∃ c t f, V.heap[j]? = some (.cells c t f)) : KeepsOthers V V' :=
  ⟨hw.size, fun k o hk ho => by
    refine (hw.block k (Array.getElem?_eq_some_iff.1 hk).1 (fun e => ?_)).trans hk
    obtain ⟨c, t, f, h⟩ := hs k e
    rw [hk] at h
    cases h
    cases ho⟩

/-- One more into the room that is there. -/
theorem run_append_in {VA : World} {g0 b2 : Nat} {v x : Value} (hg : VA.heap[g0]? = some (.cells #[v] 46 (0, 0))) (hc : VA.cell? ⟨b2, 0, none⟩ = some x) (h1 : x.oneCell' = true) :
    ∃ V2, (Builtin.append_ #[63, 63] 63 #[.slice (some ⟨g0, 0, none⟩) 0 1, .slice (some ⟨b2, 0, none⟩) 1 1]).run Tryz.prog VA = .ok (.slice (some ⟨g0, 0, none⟩) 1 1) V2 ∧
      V2.heap[g0]? = some (.cells #[x] 46 (0, 0)) ∧ Wrote (fun j => j = g0) VA V2 := by
  obtain ⟨i0, hi0, hz0, hz1, hz2⟩ := info_err
  have h := run_append_room (P := Tryz.prog) (w := VA) 63 63 46 i0 Tryz.underlying63 hi0 g0 0 1 #[v] hg ⟨b2, 0, none⟩ 1 1 [x] (by rw [hz1]; rfl)
    (fun j u hu => by
      cases j with
      | zero => cases hu; rw [add_zero]; exact hc
      | succ j => simp at hu) (fun u hu => by rw [List.mem_singleton.1 hu]; exact h1) (by decide) (by rw [hz1]; simp)
  refine ⟨_, h, ?_, ?_⟩
  · rw [setRow_heap VA g0 #[v] _ 46 (0, 0) hg]
    simp [hz1]
  · exact ⟨rfl, rfl, rfl, by simp, fun j _ hj => setRow_other VA g0 j _ hj⟩

end Go.Proofs.YtblalejegjieaaaGreatDoor

namespace Go.Proofs.YtblalejegjieaaaGreatDoor
open Go.RowKit Go.Shelf
attribute [local go_sem] Oper.semAt_some

def lenOf : Value → Nat
  | .slice _ n _ => n
  | _ => 0

set_option maxRecDepth 100000 in
theorem inv_intro {tmps : Array Value} {lv : Value} {r Bx : Nat} (h : tmps.size = 54) (h3 : tmps.getD 3 undef = lv) (h4 : tmps.getD 4 undef = .map (some r)) (h5 : tmps.getD 5 undef = .pointer (some ⟨Bx, 0, none⟩)) :
    ∃ x : Nat → Value, tmps = (x 0 :: x 1 :: x 2 :: lv :: .map (some r) :: .pointer (some ⟨Bx, 0, none⟩) :: x 6 :: x 7 :: x 8 :: x 9 :: x 10 :: x 11 :: x 12 :: x 13 :: x 14 :: x 15 :: x 16 :: x 17 :: x 18 :: x 19 :: x 20 :: x 21 :: x 22 :: x 23 :: x 24 :: x 25 :: x 26 :: x 27 :: x 28 :: x 29 :: x 30 :: x 31 :: x 32 :: x 33 :: x 34 :: x 35 :: x 36 :: x 37 :: x 38 :: x 39 :: x 40 :: x 41 :: x 42 :: x 43 :: x 44 :: x 45 :: x 46 :: x 47 :: x 48 :: x 49 :: x 50 :: x 51 :: x 52 :: x 53 :: []).toArray := by
  refine ⟨fun i => tmps.getD i undef, ?_⟩
  rw [← h3, ← h4, ← h5]
  apply Array.ext (by simp [h])
  intro i h1 h2
  have e : tmps[i] = tmps.getD i undef := by simp [Array.getD, h1]
  rw [e]
  clear e h3 h4 h5
  rw [h] at h1
  iterate 54 (obtain _ | i := i; · rfl)
  omega

theorem row_form {w : World} {B : Nat} {E : TypeId} {v : Value} {k : Nat} {xs : List Value} (h : w.ownsRow B E 1 v k xs) : (v = .slice none 0 0 ∧ k = 0) ∨ ∃ g cap, v = .slice (some ⟨g, 0, none⟩) k cap := by
  rcases h.2 with ⟨h1, h2⟩ | ⟨g, cap, cur, h1, _⟩
  · exact .inl ⟨h1, h2⟩
  · exact .inr ⟨g, cap, h1⟩

set_option maxRecDepth 100000 in
set_option maxHeartbeats 8000000 in
theorem parts_any (w : World) (ks : List (Nat × Addr)) (hc : Chain w ks) :
    Calls Tryz.prog 27 #[errV (ks.getD 0 k0).1 (ks.getD 0 k0).2] w fun e w' => ∃ lv, e = .returned lv ∧ w'.ownsRow w.heap.size 46 1 lv ks.length (ks.map fun x => errV x.1 x.2) ∧ Below w.heap.size w w' := by
  refine (callsIn_wide (n := 6)).1 ?_
  have hmm := @run_makeMap Tryz.prog
  have HC := hid hc
  have HS := hid (PInv.start (w := w) hc.full)
  clear hc
  generalize (ks.getD 0 k0).1 = T0 at HS ⊢
  generalize (ks.getD 0 k0).2 = b0 at HS ⊢
  refine callsIn_of_wp_marks Tryz.func27 rfl trivial ?_ rfl
  simp only [Tryz.ntmps27, List.size_toArray, List.length_cons, List.length_nil, Nat.reduceAdd, Nat.reduceSub, Array.replicate_succ, Array.replicate_zero, List.push_toArray, List.append_toArray, List.nil_append, List.cons_append]
  gi_wp2
  refine wpIn_loop (fun a W => ∃ k lv r g0 Bx Ds, a.tmps.size = 54 ∧ a.tmps.getD 3 undef = lv ∧ a.tmps.getD 4 undef = .map (some r) ∧ a.tmps.getD 5 undef = .pointer (some ⟨Bx, 0, none⟩) ∧ a.defers = Ds.map mark ∧ PInv w ks k lv r g0 Bx Ds W) (fun a _ => ks.length - lenOf (a.tmps.getD 3 undef)) ?_ ?_
  · exact ⟨0, _, _, _, _, [], rfl, rfl, rfl, rfl, rfl, HS.out⟩
  · clear HS hmm
    rintro ⟨tmps, defers⟩ W ⟨k, lv, r, g0, Bx, Ds, q1, q2, q3, q4, rfl, hi⟩
    obtain ⟨x, rfl⟩ := inv_intro q1 q2 q3 q4
    clear q1 q2 q3 q4
    have HI := hid hi
    have hbox := hi.box
    have cB := cell_of_blk hbox 0
    have fB := frozen_of_blk hbox 0
    simp only [List.getElem?_toArray, List.getElem?_cons_zero] at cB
    by_cases hk : k < ks.length
    · rw [if_pos hk] at cB
      obtain ⟨v0, hb0, hv0⟩ := hi.base
      have hv1 := hv0 hk
      generalize hkT : (ks.getD k k0).1 = T at hv1
      generalize hkb : (ks.getD k k0).2 = b at hv1
      subst hv1
      have hkk : ks[k]? = some (T, b) := by rw [List.getElem?_eq_getElem hk, ← hkT, ← hkb]; simp [List.getD, hk]
      have cg := cell_of_blk hb0 0
      simp only [List.getElem?_toArray, List.getElem?_cons_zero] at cg
      have hnB : ¬ g0 = Bx := fun e => by rw [e, hbox] at hb0; simp at hb0
      have hrB : ¬ r = Bx := fun e => by obtain ⟨es, cl, h1, _⟩ := hi.met; rw [e, hbox] at h1; cases h1
      have hrg : ¬ r = g0 := fun e => by obtain ⟨es, cl, h1, _⟩ := hi.met; rw [e, hb0] at h1; cases h1
      -- the world when the part is taken off
      have hW1 : Wrote (fun j => j = Bx) W (W.setCell ⟨Bx, 0, none⟩ (.slice (some ⟨g0, 0, none⟩) 0 1)) := Wrote.setCell (S := fun j => j = Bx) (Wrote.refl _ W) (fun _ => rfl) _
      have hCW := HC.out.below hi.below
      have hlow : ∀ j, j ∈ ks → j.2.block < w.heap.size := fun j hj => by obtain ⟨c, t, h1⟩ := (HC.out.at j hj).block; exact lt_of_block h1
      have hmem : (T, b) ∈ ks := List.mem_of_getElem? hkk
      have hE1 : ∀ j, j ∈ ks → ErrAt (W.setCell ⟨Bx, 0, none⟩ (.slice (some ⟨g0, 0, none⟩) 0 1)) j.1 j.2 := fun j hj => (hCW.at j hj).kept hW1 (fun e => by have := hlow j hj; have := hi.low; omega)
      have hfr := fresh_any (T := T) (b := b) (hi.met.kept hW1 hrB) (fun j hj => hE1 j (List.mem_of_mem_take hj)) (show ErrAt _ T b from hE1 (T, b) hmem)
      have hnot : (T, b) ∉ ks.take k := fun hm => by
        obtain ⟨i, hi1, hi2⟩ := List.mem_iff_getElem.1 hm
        rw [List.length_take] at hi1
        have h2 : ks[i]? = some (T, b) := by rw [← hi2, List.getElem_take, List.getElem?_eq_getElem]
        have : i = k := (List.getElem?_inj (by omega) HC.out.apart).1 (h2.trans hkk.symm)
        omega
      have htk : ks.take (k + 1) = ks.take k ++ [(T, b)] := by rw [List.take_add_one, hkk]; rfl
      rw [show putKey (ks.take k) (T, b) = ks.take (k + 1) by unfold putKey; rw [if_neg hnot, htk], show decide ((T, b) ∉ ks.take k) = true from decide_eq_true hnot] at hfr
      have HF := hid hfr
      have hnn : ∀ W', (binOp .eql 46 (errV T b) .nilIface).run Tryz.prog W' = .ok (.bool false) W' := fun W' => by
        have h : ∀ d : Nat, (Op.equalIn (d + 1) 46 (errV T b) .nilIface).run Tryz.prog W' = .ok false W' := fun d => by simp [errV, Op.equalIn, run_underlying Tryz.underlying46]
        simp only [binOp]
        simp [Op.equal, Op.maxDepth, h 9999]
      have hfew := HC.out.few
      have hlv := row_form hi.row
      have h64 : ((k : Nat) : Int) < 134217728 := by omega
      have HW1 := hid hW1
      have E1 : Hid (k + 1 ≤ maxLen) := hid (by unfold maxLen; omega)
      have E2 : Hid ((k + 1) * 16 ≤ 140737488355328) := hid (by omega)
      obtain ⟨i0, hi0, hz0, hz1, hz2⟩ := info_err
      clear hfr hnot hE1 hmem hCW hW1 hbox hv0
      obtain ⟨ao, cap0, rfl⟩ : ∃ ao cap0, lv = .slice ao k cap0 := by
        rcases hlv with ⟨h1, h2⟩ | ⟨g, cap, h1⟩
        · exact ⟨none, 0, by rw [h1, h2]⟩
        · exact ⟨_, cap, h1⟩
      have HH := hid (And.intro hkk (And.intro htk (And.intro hlow (And.intro hrB (And.intro hrg (And.intro hkT (And.intro hkb hb0)))))))
      have HK := hid hk
      clear hi hlv hkk htk hlow hrB hrg hkT hkb hb0 hfew hk
      gi_wp2_with fail
      refine And.intro trivial ?_
      refine (callsIn_wide.2 HF.out).mono ?_
      rintro e w2 ⟨rfl, hm2, hw2⟩
      have HM2 := hid hm2
      have HW2 := hid ((HW1.out.mono (S' := fun j => j = Bx ∨ j = r) (fun _ _ e => .inl e)).trans (hw2.mono (S' := fun j => j = Bx ∨ j = r) (fun _ _ e => .inr e)))
      have HWF := hid hw2
      have HR2 := hid (ownsRow_kept HI.out.row HW2.out (fun g hg e => by have h := HI.out.other g hg; rcases e with e | e; exact h.2.2.1 e; exact h.2.2.2 e))
      have HS2 := hid (Nat.le_trans HI.out.below.size HW2.out.size)
      clear hm2 hw2
      dsimp only
      gi_wp2_with (gi_at_builtin; refine wpListIn_append_own_at _ rfl _ _ 63 rfl w.heap.size 46 i0 .nilIface 1 16 Tryz.underlying63 hi0 hz0 hz1 hz2 rfl (by decide) (.slice ao k cap0) k _ rfl (ownsRow_kept HR2.out (Wrote.of_below (bnew (bid w2) _) (fun _ => False)) (fun _ _ h => h)) ⟨w2.heap.size, 0, none⟩ 1 1 [errV T b] rfl rfl (cell_one_new _ _ _) (by simp [Value.oneCell']) E1.out E2.out (Nat.le_trans HS2.out (bnew (bid w2) _).size) ?_; intro v1 w3 hown3 hg3 hn3 hat3; have HA := hid (And.intro hown3 (And.intro hg3 hat3)); have HW3 := hid (((HW2.out.mono (S' := fun j => j = Bx ∨ j = r ∨ Value.ownBlock (.slice ao k cap0) = some j) (fun _ _ e => by rcases e with e | e; exact .inl e; exact .inr (.inl e))).alloc _).grown hg3 (fun j e _ => .inr (.inr e))); have HWG := hid (((HWF.out.mono (S' := fun j => j = r ∨ Value.ownBlock (.slice ao k cap0) = some j) (fun _ _ e => .inl e)).alloc _).grown hg3 (fun j e _ => .inr e)); have HB3 := hid (HI.out.below.trans (HW3.out.below HI.out.below.size (fun j hj e => by have := HI.out.low; rcases e with e | e | e; omega; omega; have := (HI.out.other j e).1; omega))); clear hown3 hg3 hn3 hat3)
      refine And.intro trivial ?_
      refine (callsIn_wide.2 (wrapped_any HC.out HB3.out HH.out.1)).mono ?_
      rintro e w4 ⟨a1, len1, cap1, rfl, hx4, hb4⟩
      have HX4 := hid hx4
      have HB4 := hid hb4
      clear hx4 hb4
      dsimp only
      gi_wp2_with fail
      refine And.intro trivial ?_
      refine (back_in Fence.wide _ trivial rfl _ _ _ _).mono ?_
      rintro e w5 ⟨rfl, rfl⟩
      dsimp only
      gi_wp2_with fail
      have HX5 : Hid ((nextOf ks k = [] ∧ a1 = none ∧ len1 = 0 ∧ cap1 = 0) ∨ (∃ kk g, nextOf ks k = [kk] ∧ a1 = some ⟨g, 0, none⟩ ∧ len1 = 1 ∧ g < (w4.alloc (.cells #[.slice a1 len1 cap1] 63)).heap.size ∧ (w4.alloc (.cells #[.slice a1 len1 cap1] 63)).cell? ⟨g, 0, none⟩ = some (errV kk.1 kk.2))) := hid (by
        rcases HX4.out with h | ⟨kk, g, h1, h2, h3, h4, h5⟩
        · exact .inl h
        · exact .inr ⟨kk, g, h1, h2, h3, Nat.lt_of_lt_of_le h4 (bnew (bid w4) _).size, ((bnew (bid w4) (.cells #[.slice a1 len1 cap1] 63)).cell (p := ⟨g, 0, none⟩) h4).trans h5⟩)
      have HCB : Hid ((w4.alloc (.cells #[.slice a1 len1 cap1] 63)).cell? ⟨w4.heap.size, 0, none⟩ = some (.slice a1 len1 cap1)) := hid (by simp [go_sem])
      have HBB : Hid (w3.heap[Bx]? = some (.cells #[.slice (some ⟨g0, 0, none⟩) 0 1] 63 (0, 0)) ∧ w3.heap[g0]? = some (.cells #[errV T b] 46 (0, 0))) := hid (by
        have o := HI.out.other
        have hB := HI.out.box
        have lB := lt_of_block hB
        have hg0 := HH.out.2.2.2.2.2.2.2
        have lg := lt_of_block hg0
        refine ⟨(HWG.out.block Bx (Nat.lt_of_lt_of_le lB HW1.out.size) (fun e => ?_)).trans (blk_setCell hB 0 _), (HWG.out.block g0 (Nat.lt_of_lt_of_le lg HW1.out.size) (fun e => ?_)).trans ((HW1.out.block g0 lg hnB).trans hg0)⟩
        · rcases e with e | e
          · exact HH.out.2.2.2.1 e.symm
          · exact (o Bx e).2.2.1 rfl
        · rcases e with e | e
          · exact HH.out.2.2.2.2.1 e.symm
          · exact (o g0 e).2.1 rfl)
      have HL1 : Hid ((nextOf ks k).length ≤ 1) := hid (by unfold nextOf; split <;> simp)
      have hb5 : Below w3.heap.size w3 (w4.alloc (.cells #[.slice a1 len1 cap1] 63)) := bnew HB4.out _
      have HB5 := hid hb5
      have HZ : Hid (Bx < (w4.alloc (.cells #[.slice a1 len1 cap1] 63)).heap.size ∧ g0 < (w4.alloc (.cells #[.slice a1 len1 cap1] 63)).heap.size) := hid ⟨Nat.lt_of_lt_of_le (lt_of_block HBB.out.1) hb5.size, Nat.lt_of_lt_of_le (lt_of_block HBB.out.2) hb5.size⟩
      have HBC : Hid ((w4.alloc (.cells #[.slice a1 len1 cap1] 63)).heap[Bx]? = some (.cells #[.slice (some ⟨g0, 0, none⟩) 0 1] 63 (0, 0)) ∧ (w4.alloc (.cells #[.slice a1 len1 cap1] 63)).heap[g0]? = some (.cells #[errV T b] 46 (0, 0))) :=
        hid ⟨(hb5.block Bx (lt_of_block HBB.out.1)).trans HBB.out.1, (hb5.block g0 (lt_of_block HBB.out.2)).trans HBB.out.2⟩
      clear hb5
      generalize w4.alloc (.cells #[.slice a1 len1 cap1] 63) = X0 at HX5 HCB HB5 HZ HBC ⊢
      have HW4 : Hid (w4.heap.size < X0.heap.size) := hid (World.block_lt_of_cell? X0 _ HCB.out)
      refine wpIn_rangeFunc_ownF (α := Nat × Addr) rfl (by decide) (gf := 68) (lb := #[.pointer (some ⟨w4.heap.size, 0, none⟩)]) rfl trivial (enters_of Tryz.func68 (by kernel_rfl) rfl)
        (back_stops Fence.wide _ trivial rfl (by decide) w4.heap.size a1 len1 cap1 (nextOf ks k) X0 HW4.out HCB.out HX5.out) (fun _ _ => trivial) (fun _ _ _ _ _ _ _ _ => trivial) (Below.refl _ _) (fun _ => rfl)
        (fun pre V => ((pre = [] ∧ V.heap[Bx]? = some (.cells #[.slice (some ⟨g0, 0, none⟩) 0 1] 63 (0, 0)) ∧ V.heap[g0]? = some (.cells #[errV T b] 46 (0, 0))) ∨ (∃ kk, pre = [kk] ∧ V.heap[Bx]? = some (.cells #[.slice (some ⟨g0, 0, none⟩) 1 1] 63 (0, 0)) ∧ V.heap[g0]? = some (.cells #[errV kk.1 kk.2] 46 (0, 0)))) ∧ Wrote (fun j => j = Bx ∨ j = g0) X0 V)
        (fun _ _ _ => False)
        (fun s A B row hs hg hr => by
          have hw : Wrote (fun j => row = some j) A B := (Wrote.refl _ A).grown hg (fun j e _ => e)
          have hz := HZ.out
          have kB : B.heap[Bx]? = A.heap[Bx]? := hw.block Bx (Nat.lt_of_lt_of_le hz.1 hs.2.size) (fun e => by have := (hr Bx e).1; omega)
          have kg : B.heap[g0]? = A.heap[g0]? := hw.block g0 (Nat.lt_of_lt_of_le hz.2 hs.2.size) (fun e => by have := (hr g0 e).1; omega)
          refine ⟨?_, hs.2.then hw (fun j hj e => by have := (hr j e).1; omega)⟩
          rw [kB, kg]
          exact hs.1)
        (fun _ _ _ _ _ hs _ _ => hs)
        ⟨.inl ⟨rfl, HBC.out⟩, Wrote.refl _ X0⟩
        (fun y => { tmps := (x 0 :: x 1 :: x 2 :: v1 :: .map (some r) :: .pointer (some ⟨Bx, 0, none⟩) :: errV T b :: x 7 :: errV y.1 y.2 :: x 9 :: x 10 :: x 11 :: .slice (some ⟨g0, 0, none⟩) 1 1 :: .int .i64 1 :: .bool true :: .bool true :: .slice ao k cap0 :: .int .i64 (k : Int) :: .bool true :: .bool true :: .slice (some ⟨g0, 0, none⟩) 1 1 :: .slice (some ⟨g0, 0, none⟩) 1 1 :: .int .i64 1 :: .int .i64 0 :: .pointer (some ⟨g0, 0, none⟩) :: errV T b :: .slice (some ⟨g0, 0, none⟩) 1 1 :: .slice (some ⟨g0, 0, none⟩) 1 1 :: .int .i64 1 :: .int .i64 0 :: .slice (some ⟨g0, 0, none⟩) 0 1 :: errV T b :: .bool false :: .bool false :: .map (some r) :: errV T b :: .bool true :: .bool false :: .bool false :: .slice ao k cap0 :: errV T b :: .slice (some ⟨w2.heap.size, 0, none⟩) 1 1 :: v1 :: errV T b :: .slice a1 len1 cap1 :: .func (.func 68) #[] #[.pointer (some ⟨w4.heap.size, 0, none⟩)] :: .int .i64 0 :: errV y.1 y.2 :: x 48 :: x 49 :: x 50 :: x 51 :: x 52 :: x 53 :: []).toArray, defers := [] }) ?assign ?body ?done ?stop
      case assign =>
        intro l y V K hK
        gi_wp2
        exact hK
      case stop =>
        rintro D c pre V _ _ h _
        exact h.elim
      case body =>
        rintro l pre y V ⟨hIa, hWr⟩ hlen
        have hpre : pre = [] := by
          have := HL1.out
          cases pre with
          | nil => rfl
          | cons p pre => simp only [List.length_cons] at hlen; omega
        subst hpre
        rcases hIa with ⟨_, h1, h2⟩ | ⟨kk, hp, _⟩
        · have cB3 := cell_of_blk h1 0
          have fB3 := frozen_of_blk h1 0
          have cg3 := cell_of_blk h2 0
          have fg3 := frozen_of_blk h2 0
          simp only [List.getElem?_toArray, List.getElem?_cons_zero] at cB3 cg3
          have HV := hid (And.intro h1 (And.intro h2 hWr))
          have hnB2 : ¬ Bx = g0 := fun e => hnB e.symm
          have l1 := lt_of_block h1
          have l2 := lt_of_block h2
          have bV := bnew (bid V) (.cells #[errV y.1 y.2] 46)
          have cg4 := (bV.cell (p := ⟨g0, 0, none⟩) l2).trans cg3
          have fg4 := (bV.frozen (p := ⟨g0, 0, none⟩) l2).trans fg3
          have cB4 := (bV.cell (p := ⟨Bx, 0, none⟩) l1).trans cB3
          have fB4 := (bV.frozen (p := ⟨Bx, 0, none⟩) l1).trans fB3
          have HN := hid hnB2
          clear h1 h2 hWr hlen bV l1 l2 hnB2
          gi_wp2
          have hWV : Wrote (fun j => j = Bx ∨ j = g0) V (((V.alloc (.cells #[errV y.1 y.2] 46)).setCell ⟨g0, 0, none⟩ (errV y.1 y.2)).setCell ⟨Bx, 0, none⟩ (.slice (some ⟨g0, 0, none⟩) 1 1)) :=
            (((Wrote.refl (fun j => j = Bx ∨ j = g0) V).alloc _).setCell (p := ⟨g0, 0, none⟩) (fun _ => .inr rfl) _).setCell (p := ⟨Bx, 0, none⟩) (fun _ => .inl rfl) _
          have p1 := (Below.heap_alloc V (.cells #[errV y.1 y.2] 46) _ (lt_of_block HV.out.1)).trans HV.out.1
          have p2 := (Below.heap_alloc V (.cells #[errV y.1 y.2] 46) _ (lt_of_block HV.out.2.1)).trans HV.out.2.1
          refine ⟨keeps_of_wrote hWV (fun j e => ?_), trivial, .inr ⟨y.1, y.2, rfl, ?_, ?_⟩, HV.out.2.2.trans hWV⟩
          · rcases e with rfl | rfl
            · exact ⟨_, _, _, HV.out.1⟩
            · exact ⟨_, _, _, HV.out.2.1⟩
          · exact blk_setCell ((Below.heap_setCell _ ⟨g0, 0, none⟩ (errV y.1 y.2) Bx HN.out).trans p1) 0 (.slice (some ⟨g0, 0, none⟩) 1 1)
          · exact (Below.heap_setCell _ ⟨Bx, 0, none⟩ (.slice (some ⟨g0, 0, none⟩) 1 1) g0 hnB).trans (blk_setCell p2 0 (errV y.1 y.2))
        · cases hp
      case done =>
        rintro D ys V hD rfl ⟨hIa, hWr⟩ hK
        have HG : Hid (∃ v, V.heap[g0]? = some (.cells #[v] 46 (0, 0)) ∧ (k + 1 < ks.length → v = errV (ks.getD (k + 1) k0).1 (ks.getD (k + 1) k0).2)) := hid (by
          rcases hIa with ⟨hp, _, h2⟩ | ⟨kk, hp, _, h2⟩
          · refine ⟨_, h2, fun hl => ?_⟩
            unfold nextOf at hp
            rw [if_pos hl] at hp
            cases hp
          · refine ⟨_, h2, fun hl => ?_⟩
            unfold nextOf at hp
            rw [if_pos hl] at hp
            cases hp
            rfl)
        have hBx : V.heap[Bx]? = some (.cells #[.slice (some ⟨g0, 0, none⟩) (if k + 1 < ks.length then 1 else 0) 1] 63 (0, 0)) := by
          rcases hIa with ⟨hp, h1, _⟩ | ⟨kk, hp, h1, _⟩
          · have : ¬ k + 1 < ks.length := fun hl => by unfold nextOf at hp; rw [if_pos hl] at hp; cases hp
            rw [if_neg this]; exact h1
          · have : k + 1 < ks.length := by
              by_cases hl : k + 1 < ks.length
              · exact hl
              · unfold nextOf at hp; rw [if_neg hl] at hp; cases hp
            rw [if_pos this]; exact h1
        have cB2 := cell_of_blk hBx 0
        simp only [List.getElem?_toArray, List.getElem?_cons_zero] at cB2
        have HWR := hid (And.intro hWr (And.intro hD hK))
        clear hIa hBx hWr hK hD
        have HST := hid (HI.out.step HK.out HM2.out HW2.out.size (o1 := .cells #[errV T b] 46) ((Wrote.refl _ _).grown HA.out.2.1 (fun j e _ => e)) (by rw [HH.out.2.1, List.map_append]; exact HA.out.1) HA.out.2.2 HW3.out HB5.out HWR.out.1 HWR.out.2.1 HWR.out.2.2 (HG.out))
        generalize (if k + 1 < ks.length then 1 else 0) = q at cB2 HST
        gi_wp2
        refine ⟨⟨k + 1, v1, r, g0, V.heap.size, D :: Ds, rfl, rfl, rfl, rfl, rfl, HST.out⟩, ?_⟩
        show ks.length - lenOf v1 < ks.length - lenOf (.slice ao k cap0)
        rcases row_form HA.out.1 with ⟨_, h⟩ | ⟨g, cap, h⟩
        · omega
        · rw [h]
          show ks.length - (k + 1) < ks.length - k
          have := HK.out
          omega
    · have e : k = ks.length := by have := hi.le; omega
      rw [if_neg hk] at cB
      clear hi hbox
      gi_wp2
      refine leaves_marks Ds W HI.out.marks.1 (fun D hD => (HI.out.marks.2 D hD).2) (fun W' hW' => ⟨_, results_tmp rfl _ _ _, lv, rfl, ?_, ?_⟩)
      · have h := ownsRow_kept HI.out.row hW' (fun g hg hD => by
          obtain ⟨_, cs, t, h1⟩ := ownsRow_block HI.out.row hg
          rw [(HI.out.marks.2 g hD).2] at h1
          cases h1)
        rw [e, List.take_length] at h
        exact h
      · exact HI.out.below.trans (hW'.below HI.out.below.size (fun j hj hD => by have := (HI.out.marks.2 j hD).1; omega))

end Go.Proofs.YtblalejegjieaaaGreatDoor
