/-
  A slice, of the call's own, of structs of four integers.
-/
import Derived.Test.YtjfinnjmcnjciaaInts
namespace Go.Proofs.Ytjfinnjmcnjciaa
open Go.RowKit

/-- The slice at block g holds n structs, their integers one behind the other: zs. -/
def Recs (E : TypeId) (w : World) (B g cap n : Nat) (zs : List Int) : Prop := w.ownsRow B E 4 (.slice (some ⟨g, 0, none⟩) n cap) n (zs.map (Value.int .i64))

section
variable {E : TypeId} {w w' : World} {B g cap n : Nat} {zs : List Int}
theorem Recs.len (h : Recs E w B g cap n zs) : zs.length = n * 4 := by have := h.1; simpa using this
theorem Recs.cell (h : Recs E w B g cap n zs) {j : Nat} (hj : j < n * 4) : w.cell? ⟨g, j, none⟩ = some (.int .i64 (zs.getD j 0)) := by
  rw [World.ownsRow.cellAt h j hj]
  have := h.len
  simp [show j < zs.length by omega]
theorem Recs.lt (h : Recs E w B g cap n zs) : B ≤ g ∧ g < w.heap.size := World.ownsRow.lt h g rfl
theorem Recs.room (h : Recs E w B g cap n zs) : n ≤ cap ∧ cap ≤ maxLen := by
  rcases h.2 with ⟨h', _⟩ | ⟨g', cap', cur, h', _, _, h1, h2, _⟩
  · simp at h'
  · simp only [Value.slice.injEq] at h'
    obtain ⟨_, _, rfl⟩ := h'
    exact ⟨h1, h2⟩
theorem Recs.below (h : Recs E w B g cap n zs) (hb : Below w.heap.size w w') : Recs E w' B g cap n zs := by
  refine ⟨h.1, ?_⟩
  rcases h.2 with ⟨h', _⟩ | ⟨g', cap', cur, h', h1, h2, h3⟩
  · simp at h'
  · simp only [Value.slice.injEq, Option.some.injEq, Addr.mk.injEq, and_true, true_and] at h'
    obtain ⟨rfl, rfl⟩ := h'
    exact .inr ⟨g, cap, cur, rfl, h1, (hb.block g (lt_of_block h2)).trans h2, h3⟩
/-- What a literal lays. -/
theorem Recs.lit (zs : List Int) (n : Nat) (w : World) (E : TypeId) (cs : Array Value) (h : cs = (zs.map (Value.int .i64)).toArray) (hn : zs.length = n * 4) (hB : B ≤ w.heap.size) (hm : n ≤ maxLen) :
    Recs E (w.alloc (.cells cs E)) B w.heap.size n n zs := by
  subst h
  exact ⟨by simpa using hn, .inr ⟨w.heap.size, n, _, rfl, hB, heap_alloc_new _ _, Nat.le_refl _, hm, by simpa using hn, by simp [List.take_of_length_le, hn]⟩⟩
end

theorem wpList_append_recs {P : Program} {ops : Array Oper} {rest : List Oper} {o : Oper} {a : Act} {W : World} {cs : Array Value} {E : TypeId} {Q : Exit → Act → World → Prop} (hgd : o.guard = none) (s x : Operand) (t : TypeId)
    (ho : o.op = .call { callee := .builtin .append, args := #[s, x], argTypes := #[t, t] })
    {B : Nat} {e : TypeId} {i : TypeInfo} {z : Value} (ht : P.underlying t = some (.slice e)) (hi : P.info? e = some i) (hz : i.zero = some z) (hzs : z.cells.size = 4)
    (hsize : i.size = 4) (hby : i.bytes = 32) {g cap n : Nat} {zs : List Int} (hs : a.eval s = .slice (some ⟨g, 0, none⟩) n cap) (hown : Recs e W B g cap n zs) (ns : List Int) (m c : Nat) (hx : a.eval x = .slice (some ⟨W.heap.size, 0, none⟩) m c)
    (hcs : cs = (ns.map (Value.int .i64)).toArray) (hm : ns.length = m * 4) (hbig : n + m ≤ 1000000) (hB : B ≤ W.heap.size) (hne : 0 < n)
    (h : ∀ g' cap' w', Recs e w' B g' cap' (n + m) (zs ++ ns) → Below B (W.alloc (.cells cs E)) w' → wpList P ops Q rest (a.put o.dst (.slice (some ⟨g', 0, none⟩) (n + m) cap')) w') : wpList P ops Q (o :: rest) a (W.alloc (.cells cs E)) := by
  refine wpList_append_own_at _ hgd s x t ho B e i z 4 32 ht hi hz hsize hby hzs (by decide) (.slice (some ⟨g, 0, none⟩) n cap) n (zs.map (Value.int .i64)) hs (hown.below (bnew (bid W) _)) ⟨W.heap.size, 0, none⟩ m c (ns.map (Value.int .i64)) hx (by simpa using hm)
    (fun j u hu => ?_) (fun u hu => by obtain ⟨z, _, rfl⟩ := List.mem_map.1 hu; rfl) (by unfold maxLen; omega) (by omega) (Nat.le_trans hB (bnew (bid W) _).size) ?_
  · rw [List.getElem?_map, Option.map_eq_some_iff] at hu
    obtain ⟨z, hz', rfl⟩ := hu
    have hj : j < ns.length := (List.getElem?_eq_some_iff.1 hz').1
    rw [add_at, Nat.zero_add, lit_cells W E ns cs hcs j hj]
    simp [hz']
  · intro v' w' hown' hg _ _
    obtain ⟨g', cap', hv, _, _⟩ := World.ownsRow.form hown' (by omega)
    subst hv
    refine h g' cap' w' ?_ ?_
    · unfold Recs
      rw [List.map_append]
      exact hown'
    · exact (Below.refl _ _).grown hg (Nat.le_trans hB (bnew (bid W) _).size) (fun k hk => by cases hk; exact hown.lt.1)

end Go.Proofs.Ytjfinnjmcnjciaa
