/-
  A slice of integers of the call's own: read, stored into, appended to, kept.
-/
import Derived.Test.YtjfinnjmcnjciaaLater
import Derived.Maps.AppendAt
import Derived.Deep.AppendLies
namespace Go.Proofs.Ytjfinnjmcnjciaa
open Go.RowKit

/-- The slice at block g (capacity cap), the call's own from block B on, holds zs. -/
def Ints (E : TypeId) (w : World) (B g cap : Nat) (zs : List Int) : Prop := w.ownsRow B E 1 (.slice (some ⟨g, 0, none⟩) zs.length cap) zs.length (zs.map (Value.int .i64))

section
variable {E : TypeId} {w w' : World} {B g cap : Nat} {zs : List Int}
theorem Ints.cell (h : Ints E w B g cap zs) {i : Nat} (hi : i < zs.length) : w.cell? ⟨g, i, none⟩ = some (.int .i64 (zs.getD i 0)) := by
  rw [World.ownsRow.cellAt h i (by simpa using hi)]
  simp [hi]
theorem Ints.frozen (h : Ints E w B g cap zs) (i : Nat) : w.frozen? ⟨g, i, none⟩ = false := World.ownsRow.frozenAt h i
theorem Ints.lt (h : Ints E w B g cap zs) : B ≤ g ∧ g < w.heap.size := World.ownsRow.lt h g rfl
theorem Ints.room (h : Ints E w B g cap zs) : zs.length ≤ cap ∧ cap ≤ maxLen := by
  rcases h.2 with ⟨h', _⟩ | ⟨g', cap', cur, h', _, _, h1, h2, _⟩
  · simp at h'
  · simp only [Value.slice.injEq] at h'
    obtain ⟨_, _, rfl⟩ := h'
    exact ⟨h1, h2⟩
theorem Ints.kept {S : Nat → Prop} (h : Ints E w B g cap zs) (hw : Wrote S w w') (hs : ¬ S g) : Ints E w' B g cap zs := by
  refine ⟨h.1, ?_⟩
  rcases h.2 with ⟨h', _⟩ | ⟨g', cap', cur, h', h1, h2, h3⟩
  · simp at h'
  · simp only [Value.slice.injEq, Option.some.injEq, Addr.mk.injEq, and_true, true_and] at h'
    obtain ⟨rfl, rfl⟩ := h'
    refine .inr ⟨g, cap, cur, rfl, h1, ?_, h3⟩
    rw [hw.block g (lt_of_block h2) hs]
    exact h2
theorem Ints.below (h : Ints E w B g cap zs) (hb : Below w.heap.size w w') : Ints E w' B g cap zs := h.kept (S := fun _ => False) (Wrote.of_below hb _) fun h => h
theorem Ints.store (h : Ints E w B g cap zs) (i : Nat) (v : Int) : Ints E (w.setCell ⟨g, i, none⟩ (.int .i64 v)) B g cap (zs.set i v) := by
  have := (World.ownsRow.stored h i (.int .i64 v)).1
  unfold Ints
  rw [List.length_set, List.map_set]
  exact this
theorem Ints.far (h : Ints E w B g cap zs) {p : Addr} (hp : p.block ≠ g) (v : Value) : Ints E (w.setCell p v) B g cap zs :=
  h.kept (S := fun k => k = p.block) (Wrote.setCell (S := fun k => k = p.block) (Wrote.refl _ w) (p := p) (fun _ => rfl) v) fun e => hp e.symm
theorem Ints.alloc (h : Ints E w B g cap zs) (o : Obj) : Ints E (w.alloc o) B g cap zs := h.below (bnew (bid w) o)
theorem Ints.drew (h : Ints E w B g cap zs) : Ints E w.drew B g cap zs := h.below (bdrew (bid w))
/-- What make lays. -/
theorem Ints.made {n : Nat} (h : w.ownsRow B E 1 (.slice (some ⟨g, 0, none⟩) n n) n (madeCells (Value.int .i64 0).cells (n * 1)).toList) : Ints E w B g n (List.replicate n 0) := by
  have e : (madeCells (Value.int .i64 0).cells (n * 1)).toList = (List.replicate n (0 : Int)).map (Value.int .i64) := by
    rw [show (Value.int .i64 0).cells = #[Value.int .i64 0] from rfl, toList_madeCells_one, Nat.mul_one, List.map_replicate]
  rw [e] at h
  unfold Ints
  rw [List.length_replicate]
  exact h
/-- What a literal lays. -/
theorem Ints.lit (zs : List Int) (w : World) (E : TypeId) (cs : Array Value) (h : cs = (zs.map (Value.int .i64)).toArray) (hB : B ≤ w.heap.size) (hm : zs.length ≤ maxLen) :
    Ints E (w.alloc (.cells cs E)) B w.heap.size zs.length zs := by
  subst h
  refine ⟨by simp, .inr ⟨w.heap.size, zs.length, _, rfl, hB, heap_alloc_new _ _, Nat.le_refl _, hm, by simp, by simp [List.take_of_length_le]⟩⟩
end

/-- append of some integers that a literal has just laid. -/
theorem wpList_append_ints {P : Program} {ops : Array Oper} {rest : List Oper} {o : Oper} {a : Act} {w : World} {Q : Exit → Act → World → Prop} (hgd : o.guard = none) (s x : Operand) (t : TypeId)
    (ho : o.op = .call { callee := .builtin .append, args := #[s, x], argTypes := #[t, t] })
    {B : Nat} {e : TypeId} {i : TypeInfo} (ht : P.underlying t = some (.slice e)) (hi : P.info? e = some i) (hz : i.zero = some (.int .i64 0))
    (hsize : i.size = 1) (hby : i.bytes = 8) {g cap : Nat} {zs : List Int} (hs : a.eval s = .slice (some ⟨g, 0, none⟩) zs.length cap) (hown : Ints e w B g cap zs)
    (b m c : Nat) (ns : List Int) (hx : a.eval x = .slice (some ⟨b, 0, none⟩) m c) (hnews : ∀ j, j < m → w.cell? ⟨b, j, none⟩ = some (.int .i64 (ns.getD j 0))) (hm : ns.length = m) (hbig : zs.length + m ≤ 1000000) (hB : B ≤ w.heap.size)
    (h : ∀ g' cap' w', Ints e w' B g' cap' (zs ++ ns) → Below B w w' → wpList P ops Q rest (a.put o.dst (.slice (some ⟨g', 0, none⟩) (zs ++ ns).length cap')) w') (hne : 0 < zs.length) : wpList P ops Q (o :: rest) a w := by
  subst hm
  refine wpList_append_own_at w hgd s x t ho B e i (.int .i64 0) 1 8 ht hi hz hsize hby rfl (by decide) (.slice (some ⟨g, 0, none⟩) zs.length cap) zs.length (zs.map (Value.int .i64)) hs hown ⟨b, 0, none⟩ ns.length c (ns.map (Value.int .i64)) hx (by simp)
    (fun j u hu => ?_) (fun u hu => by obtain ⟨z, _, rfl⟩ := List.mem_map.1 hu; rfl) (by unfold maxLen; omega) (by omega) hB ?_
  · rw [List.getElem?_map, Option.map_eq_some_iff] at hu
    obtain ⟨z, hz', rfl⟩ := hu
    have hj : j < ns.length := (List.getElem?_eq_some_iff.1 hz').1
    rw [add_at, Nat.zero_add, hnews j hj]
    simp [hz']
  · intro v' w' hown' hg _ _
    obtain ⟨g', cap', hv, _, _⟩ := World.ownsRow.form hown' (by omega)
    subst hv
    have e1 : zs.length + ns.length = (zs ++ ns).length := by simp
    rw [e1] at hown' ⊢
    refine h g' cap' w' ?_ ?_
    · unfold Ints
      rw [List.map_append]
      exact hown'
    · exact (Below.refl _ _).grown hg hB (fun k hk => by cases hk; exact hown.lt.1)

/-- The cells of a literal that has just been laid. -/
theorem lit_cells (w : World) (E : TypeId) (ns : List Int) (cs : Array Value) (h : cs = (ns.map (Value.int .i64)).toArray) : ∀ j, j < ns.length → (w.alloc (.cells cs E)).cell? ⟨w.heap.size, j, none⟩ = some (.int .i64 (ns.getD j 0)) := by
  subst h
  intro j hj
  rw [World.cell?_alloc_at _ _ _ _ rfl]
  simp [hj]

/-- append of a literal that has just been laid. -/
theorem wpList_append_lit {P : Program} {ops : Array Oper} {rest : List Oper} {o : Oper} {a : Act} {W : World} {cs : Array Value} {E : TypeId} {Q : Exit → Act → World → Prop} (hgd : o.guard = none) (s x : Operand) (t : TypeId)
    (ho : o.op = .call { callee := .builtin .append, args := #[s, x], argTypes := #[t, t] })
    {B : Nat} {e : TypeId} {i : TypeInfo} (ht : P.underlying t = some (.slice e)) (hi : P.info? e = some i) (hz : i.zero = some (.int .i64 0))
    (hsize : i.size = 1) (hby : i.bytes = 8) {g cap : Nat} {zs : List Int} (hs : a.eval s = .slice (some ⟨g, 0, none⟩) zs.length cap) (hown : Ints e W B g cap zs) (ns : List Int) (m c : Nat) (hx : a.eval x = .slice (some ⟨W.heap.size, 0, none⟩) m c)
    (hcs : cs = (ns.map (Value.int .i64)).toArray) (hm : ns.length = m) (hbig : zs.length + m ≤ 1000000) (hB : B ≤ W.heap.size) (hne : 0 < zs.length)
    (h : ∀ g' cap' w', Ints e w' B g' cap' (zs ++ ns) → Below B (W.alloc (.cells cs E)) w' → wpList P ops Q rest (a.put o.dst (.slice (some ⟨g', 0, none⟩) (zs ++ ns).length cap')) w') : wpList P ops Q (o :: rest) a (W.alloc (.cells cs E)) := by
  subst hm
  exact wpList_append_ints hgd s x t ho ht hi hz hsize hby hs (hown.alloc _) W.heap.size ns.length c ns hx (lit_cells _ _ _ _ hcs) rfl hbig (Nat.le_trans hB (bnew (bid W) _).size) h hne

/-- A list of the call's own in the making: what stands below B is as it was in wB. -/
structure Lst (E : TypeId) (wB : World) (v : Value) (zs : List Int) (wr : World) : Prop where
  row : ∃ g cap, v = .slice (some ⟨g, 0, none⟩) zs.length cap ∧ Ints E wr wB.heap.size g cap zs
  below : Below wB.heap.size wB wr
theorem Lst.later {E : TypeId} {wB wr w' : World} {v : Value} {zs : List Int} (h : Lst E wB v zs wr) (hb : Below wr.heap.size wr w') : Lst E wB v zs w' := by
  obtain ⟨⟨g, cap, hv, hi⟩, hw⟩ := h
  exact ⟨⟨g, cap, hv, hi.below hb⟩, bthen hw hb⟩

end Go.Proofs.Ytjfinnjmcnjciaa
