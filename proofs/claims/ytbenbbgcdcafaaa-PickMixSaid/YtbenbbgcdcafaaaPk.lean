/-
  Picks: slices of them, read or of the call's own; slices of bytes likewise.
-/
import Derived.Test.YtbenbbgcdcafaaaLater
import Derived.Maps.AppendAt
import Derived.Deep.AppendLies
import Derived.Laws.AppendOwnNone
import Derived.OpenShut
namespace Go.Proofs.Ytbenbbgcdcafaaa
open Go.RowKit
set_option linter.unusedVariables false

/-- A pick: who, whether it is aborted, the draw. -/
structure Pk where
  t : Int
  a : Bool
  d : Int
def Pk.cs (p : Pk) : Array Value := #[.int .i64 p.t, .bool p.a, .int .i64 p.d]
def pkCells (ps : List Pk) : List Value := ps.flatMap fun p => [.int .i64 p.t, .bool p.a, .int .i64 p.d]
theorem pkCells_len (ps : List Pk) : (pkCells ps).length = ps.length * 3 := by
  induction ps with
  | nil => rfl
  | cons p l ih => simp only [pkCells, List.flatMap_cons, List.length_append, List.length_cons, List.length_nil] at ih ⊢; omega
theorem pkCells_app (ps qs : List Pk) : pkCells (ps ++ qs) = pkCells ps ++ pkCells qs := by simp [pkCells]
theorem pkCells_snoc (ps : List Pk) (p : Pk) : pkCells (ps ++ [p]) = pkCells ps ++ [.int .i64 p.t, .bool p.a, .int .i64 p.d] := by simp [pkCells]
theorem pkCells_cons (p : Pk) (l : List Pk) : pkCells (p :: l) = .int .i64 p.t :: .bool p.a :: .int .i64 p.d :: pkCells l := by simp [pkCells]
theorem pkCells_at : ∀ (ps : List Pk) (k : Nat) (i : Pk), ps[k]? = some i → (pkCells ps)[k * 3]? = some (.int .i64 i.t) ∧ (pkCells ps)[k * 3 + 1]? = some (.bool i.a) ∧ (pkCells ps)[k * 3 + 2]? = some (.int .i64 i.d) := by
  intro ps
  induction ps with
  | nil => intro k i h; simp at h
  | cons p l ih =>
    intro k i h
    rw [pkCells_cons]
    match k, h with
    | 0, h =>
      simp only [List.getElem?_cons_zero, Option.some.injEq] at h
      subst h
      exact ⟨rfl, rfl, rfl⟩
    | k + 1, h =>
      simp only [List.getElem?_cons_succ] at h
      have := ih k i h
      have e3 : ∀ j, (k + 1) * 3 + j = (k * 3 + j) + 3 := fun j => by omega
      have e6 : (k + 1) * 3 = k * 3 + 3 := by omega
      rw [e3, e3, e6]
      exact this
theorem pkCells_one (ps : List Pk) : ∀ u ∈ pkCells ps, u.oneCell' = true := by
  intro u hu
  unfold pkCells at hu
  obtain ⟨i, _, hi⟩ := List.mem_flatMap.1 hu
  simp only [List.mem_cons, List.not_mem_nil, or_false] at hi
  rcases hi with rfl | rfl | rfl <;> rfl
theorem pkCells_set : ∀ (ps : List Pk) (k : Nat) (p : Pk), k < ps.length → pkCells (ps.set k p) = (((pkCells ps).set (k * 3) (.int .i64 p.t)).set (k * 3 + 1) (.bool p.a)).set (k * 3 + 2) (.int .i64 p.d) := by
  intro ps
  induction ps with
  | nil => intro k p h; simp at h
  | cons q l ih =>
    intro k p h
    match k, h with
    | 0, h => simp [pkCells_cons]
    | k + 1, h =>
      have := ih k p (by simpa using h)
      have e3 : ∀ j, (k + 1) * 3 + j = (k * 3 + j) + 1 + 1 + 1 := fun j => by omega
      have e6 : (k + 1) * 3 = k * 3 + 1 + 1 + 1 := by omega
      rw [List.set_cons_succ, pkCells_cons, pkCells_cons, this, e3, e3, e6]
      simp only [List.set_cons_succ]

/-- Three cells that are a pick. -/
structure PkAt (w : World) (b o : Nat) (p : Pk) : Prop where
  c0 : w.cell? ⟨b, o, none⟩ = some (.int .i64 p.t)
  c1 : w.cell? ⟨b, o + 1, none⟩ = some (.bool p.a)
  c2 : w.cell? ⟨b, o + 2, none⟩ = some (.int .i64 p.d)
theorem PkAt.keep {w w' : World} {b o : Nat} {p : Pk} (h : PkAt w b o p) (hb : w'.heap[b]? = w.heap[b]?) : PkAt w' b o p := by
  have e : ∀ j, w'.cell? ⟨b, j, none⟩ = w.cell? ⟨b, j, none⟩ := fun j => World.cell?_of_block (a := ⟨b, j, none⟩) hb
  exact ⟨(e _).trans h.c0, (e _).trans h.c1, (e _).trans h.c2⟩

/-- A slice that reads as these picks: nil, or a row of cells. -/
structure PkRow (w : World) (a : Option Addr) (len : Nat) (ps : List Pk) : Prop where
  cnt : ps.length = len
  row : len = 0 ∨ ∃ b off, a = some ⟨b, off, none⟩ ∧ b < w.heap.size ∧ ∀ k i, ps[k]? = some i → PkAt w b (off + k * 3) i
theorem PkRow.below {w w' : World} {a : Option Addr} {len : Nat} {ps : List Pk} (h : PkRow w a len ps) (hb : Below w.heap.size w w') : PkRow w' a len ps := by
  refine ⟨h.cnt, ?_⟩
  rcases h.row with h' | ⟨b, off, rfl, hlt, hc⟩
  · exact .inl h'
  · exact .inr ⟨b, off, rfl, Nat.lt_of_lt_of_le hlt hb.size, fun k i hk => (hc k i hk).keep (hb.block b hlt)⟩
theorem PkRow.at {w : World} {a : Option Addr} {len : Nat} {ps : List Pk} (h : PkRow w a len ps) (hl : 0 < len) : ∃ b off, a = some ⟨b, off, none⟩ ∧ b < w.heap.size ∧ ∀ k i, ps[k]? = some i → PkAt w b (off + k * 3) i := by
  rcases h.row with h' | h'
  · omega
  · exact h'

theorem own_wrote {S : Nat → Prop} {w w' : World} {B : Nat} {e : TypeId} {sz n : Nat} {v : Value} {xs : List Value} (h : w.ownsRow B e sz v n xs) (hw : Wrote S w w') (hs : ∀ x, v.ownBlock = some x → ¬ S x) : w'.ownsRow B e sz v n xs := by
  refine ⟨h.1, ?_⟩
  rcases h.2 with h' | ⟨g, cap, cur, rfl, h1, h2, h3⟩
  · exact .inl h'
  · refine .inr ⟨g, cap, cur, rfl, h1, ?_, h3⟩
    rw [hw.block g (lt_of_block h2) (hs g rfl)]
    exact h2

theorem bdrewN {w W : World} {n : Nat} (h : Below w.heap.size w W) : Below w.heap.size w (W.drewN n) := ⟨h.os, h.tape, h.output, h.size, h.block⟩

/-- A slice of picks that the call made: from block B on. -/
structure OwnPk (B : Nat) (v : Value) (ps : List Pk) (w : World) : Prop where
  row : w.ownsRow B 32 3 v ps.length (pkCells ps)
theorem OwnPk.nil (B : Nat) (w : World) : OwnPk B (.slice none 0 0) [] w := ⟨World.ownsRow_nil _ _ _ _⟩
theorem PkRow.of_own {w : World} {B n : Nat} {E : TypeId} {a : Option Addr} {c : Nat} {ps : List Pk} (h : w.ownsRow B E 3 (.slice a n c) n (pkCells ps)) : PkRow w a n ps := by
  have hl : ps.length = n := by have := h.1; rw [pkCells_len] at this; omega
  refine ⟨hl, ?_⟩
  rcases h.2 with ⟨h1, h0⟩ | ⟨g, cap, cur, h1, h2, h3, _⟩
  · exact .inl h0
  · simp only [Value.slice.injEq] at h1
    obtain ⟨rfl, _, rfl⟩ := h1
    refine .inr ⟨g, 0, rfl, lt_of_block h3, fun k i hk => ?_⟩
    have hkn : k < n := by rw [← hl]; exact (List.getElem?_eq_some_iff.1 hk).1
    obtain ⟨g0, g1, g2⟩ := pkCells_at ps k i hk
    refine ⟨?_, ?_, ?_⟩ <;> rw [Nat.zero_add, h.cellAt _ (by omega)] <;> assumption
theorem OwnPk.shape {B : Nat} {v : Value} {ps : List Pk} {w : World} (h : OwnPk B v ps w) : ∃ a c, v = .slice a ps.length c ∧ PkRow w a ps.length ps ∧ (a = none → c = 0) ∧ ps.length ≤ c ∧ c ≤ maxLen := by
  rcases h.row.2 with ⟨h1, h0⟩ | ⟨g, cap, cur, h1, h2, h3, h4, h5, _⟩
  · refine ⟨none, 0, by rw [h1, h0], ?_, fun _ => rfl, by omega, Nat.zero_le _⟩
    have hr := h.row
    rw [h1] at hr
    rw [h0] at hr ⊢
    exact .of_own hr
  · refine ⟨some ⟨g, 0, none⟩, cap, h1, ?_, fun h => (by cases h), h4, h5⟩
    have hr := h.row
    rw [h1] at hr
    exact .of_own hr
theorem OwnPk.mono {B B' : Nat} {v : Value} {ps : List Pk} {w : World} (h : OwnPk B v ps w) (hB : B' ≤ B) : OwnPk B' v ps w := by
  refine ⟨h.row.1, ?_⟩
  rcases h.row.2 with h' | ⟨g, cap, cur, h1, h2, h3⟩
  · exact .inl h'
  · exact .inr ⟨g, cap, cur, h1, Nat.le_trans hB h2, h3⟩
theorem OwnPk.kept {S : Nat → Prop} {B : Nat} {v : Value} {ps : List Pk} {w w' : World} (h : OwnPk B v ps w) (hw : Wrote S w w') (hs : ∀ x, v.ownBlock = some x → ¬ S x) : OwnPk B v ps w' := ⟨own_wrote h.row hw hs⟩
theorem OwnPk.below {B : Nat} {v : Value} {ps : List Pk} {w w' : World} (h : OwnPk B v ps w) (hb : Below w.heap.size w w') : OwnPk B v ps w' := h.kept (Wrote.of_below hb (fun _ => False)) fun _ _ h => h
theorem OwnPk.old {B : Nat} {v : Value} {ps : List Pk} {w : World} (h : OwnPk B v ps w) {g : Nat} (hg : v.ownBlock = some g) : B ≤ g ∧ g < w.heap.size := h.row.lt g hg
theorem OwnPk.store {B g c : Nat} {ps : List Pk} {w : World} (h : OwnPk B (.slice (some ⟨g, 0, none⟩) ps.length c) ps w) (k : Nat) (hk : k < ps.length) (p : Pk) :
    OwnPk B (.slice (some ⟨g, 0, none⟩) ps.length c) (ps.set k p) (((w.setCell ⟨g, k * 3, none⟩ (.int .i64 p.t)).setCell ⟨g, k * 3 + 1, none⟩ (.bool p.a)).setCell ⟨g, k * 3 + 2, none⟩ (.int .i64 p.d)) := by
  have h1 := (h.row.stored (k * 3) (.int .i64 p.t)).1
  have h2 := (h1.stored (k * 3 + 1) (.bool p.a)).1
  have h3 := (h2.stored (k * 3 + 2) (.int .i64 p.d)).1
  refine ⟨?_⟩
  rw [pkCells_set ps k p hk, List.length_set]
  exact h3
theorem OwnPk.count {B g n c : Nat} {ps : List Pk} {w : World} (h : OwnPk B (.slice (some ⟨g, 0, none⟩) n c) ps w) : n = ps.length := by
  rcases h.row.2 with ⟨h1, _⟩ | ⟨g', cap, cur, h1, _⟩
  · simp at h1
  · simp only [Value.slice.injEq] at h1
    exact h1.2.1
theorem OwnPk.frozen {B g n c : Nat} {ps : List Pk} {w : World} (h : OwnPk B (.slice (some ⟨g, 0, none⟩) n c) ps w) (j : Nat) : w.frozen? ⟨g, j, none⟩ = false := by
  obtain rfl := h.count
  exact h.row.frozenAt j
theorem OwnPk.put {B g n c : Nat} {ps : List Pk} {w : World} (h : OwnPk B (.slice (some ⟨g, 0, none⟩) n c) ps w) (k : Nat) (hk : k < n) (p : Pk) :
    OwnPk B (.slice (some ⟨g, 0, none⟩) n c) (ps.set k p) (((w.setCell ⟨g, k * 3, none⟩ (.int .i64 p.t)).setCell ⟨g, k * 3 + 1, none⟩ (.bool p.a)).setCell ⟨g, k * 3 + 2, none⟩ (.int .i64 p.d)) := by
  obtain rfl := h.count
  exact h.store k hk p
theorem OwnPk.at {B g n c : Nat} {ps : List Pk} {w : World} (h : OwnPk B (.slice (some ⟨g, 0, none⟩) n c) ps w) {k : Nat} {p : Pk} (hk : ps[k]? = some p) : PkAt w g (k * 3) p := by
  obtain rfl := h.count
  have hl := (List.getElem?_eq_some_iff.1 hk).1
  obtain ⟨g0, g1, g2⟩ := pkCells_at ps k p hk
  refine ⟨?_, ?_, ?_⟩ <;> rw [h.row.cellAt _ (by omega)] <;> assumption
def Pk.zero : Pk := ⟨0, false, 0⟩
theorem pkZeros (n : Nat) : (madeCells #[.int .i64 0, .bool false, .int .i64 0] (n * 3)).toList = pkCells (List.replicate n Pk.zero) := by
  apply List.ext_getElem?
  intro j
  by_cases hj : j < n * 3
  · have hq : j / 3 < n := by omega
    obtain ⟨g0, g1, g2⟩ := pkCells_at (List.replicate n Pk.zero) (j / 3) Pk.zero (by simp [List.getElem?_replicate, hq])
    have hr : j % 3 = 0 ∧ j = j / 3 * 3 ∨ j % 3 = 1 ∧ j = j / 3 * 3 + 1 ∨ j % 3 = 2 ∧ j = j / 3 * 3 + 2 := by omega
    have e : (madeCells #[.int .i64 0, .bool false, .int .i64 0] (n * 3)).toList[j]? = (#[Value.int .i64 0, .bool false, .int .i64 0])[j % 3]? := by
      have : j % 3 < 3 := by omega
      have e3 : ∀ q, q < 3 → some ([Value.int IntKind.i64 0, Value.bool false, Value.int IntKind.i64 0][q]?.getD default) = [Value.int IntKind.i64 0, Value.bool false, Value.int IntKind.i64 0][q]? := fun q hq => by
        rw [List.getElem?_eq_getElem (by simpa using hq)]; rfl
      simp [madeCells, hj]
      exact e3 _ this
    rw [e]
    rcases hr with ⟨r, q⟩ | ⟨r, q⟩ | ⟨r, q⟩
    · rw [r, q, g0]; rfl
    · rw [r, q, g1]; rfl
    · rw [r, q, g2]; rfl
  · have h1 : (pkCells (List.replicate n Pk.zero)).length ≤ j := by rw [pkCells_len]; simp; omega
    rw [List.getElem?_eq_none h1]
    simp [madeCells, hj]
/-- What make lays. -/
theorem OwnPk.made {B g n : Nat} {w : World} (h : w.ownsRow B 32 3 (.slice (some ⟨g, 0, none⟩) n n) n (madeCells (Value.agg #[.int .i64 0, .bool false, .int .i64 0]).cells (n * 3)).toList) : OwnPk B (.slice (some ⟨g, 0, none⟩) n n) (List.replicate n Pk.zero) w := by
  have e : (madeCells (Value.agg #[.int .i64 0, .bool false, .int .i64 0]).cells (n * 3)).toList = pkCells (List.replicate n Pk.zero) := pkZeros n
  rw [e] at h
  refine ⟨?_⟩
  rw [List.length_replicate]
  exact h
/-- A pick's thread alone. -/
theorem OwnPk.putT {B g n c : Nat} {ps : List Pk} {w : World} (h : OwnPk B (.slice (some ⟨g, 0, none⟩) n c) ps w) {k : Nat} (hk : k < n) {p : Pk} (hp : ps[k]? = some p) (t : Int) :
    OwnPk B (.slice (some ⟨g, 0, none⟩) n c) (ps.set k ⟨t, p.a, p.d⟩) (w.setCell ⟨g, k * 3, none⟩ (.int .i64 t)) := by
  obtain rfl := h.count
  have h1 := (h.row.stored (k * 3) (.int .i64 t)).1
  refine ⟨?_⟩
  rw [pkCells_set ps k _ hk, List.length_set]
  obtain ⟨g0, g1, g2⟩ := pkCells_at ps k p hp
  have e : (((pkCells ps).set (k * 3) (.int .i64 t)).set (k * 3 + 1) (.bool p.a)).set (k * 3 + 2) (.int .i64 p.d) = (pkCells ps).set (k * 3) (.int .i64 t) := by
    apply List.ext_getElem?
    intro j
    simp only [List.getElem?_set, List.length_set]
    have hl := pkCells_len ps
    by_cases h2 : k * 3 + 2 = j
    · subst h2
      rw [if_pos rfl, if_pos (by omega), if_neg (by omega), g2]
    · rw [if_neg h2]
      by_cases h3 : k * 3 + 1 = j
      · subst h3
        rw [if_pos rfl, if_pos (by omega), if_neg (by omega), g1]
      · rw [if_neg h3]
  rw [e]
  exact h1
/-- An empty literal. -/
theorem OwnPk.lit0 (w : World) (B : Nat) (hB : B ≤ w.heap.size := by omega) : OwnPk B (.slice (some ⟨w.heap.size, 0, none⟩) 0 0) [] (w.alloc (.cells #[] 32)) :=
  ⟨⟨rfl, .inr ⟨w.heap.size, 0, #[], rfl, hB, heap_alloc_new _ _, Nat.le_refl _, Nat.zero_le _, rfl, rfl⟩⟩⟩
theorem infoPk : (Try.prog.info? 32).map (fun i => (i.zero, i.size, i.bytes)) = some (some (.agg #[.int .i64 0, .bool false, .int .i64 0]), 3, 24) := by kernel_rfl
theorem cell_three_new (w : World) (a b c : Value) (t : TypeId) : ∀ j u, [a, b, c][j]? = some u → (w.alloc (.cells #[a, b, c] t)).cell? ((⟨w.heap.size, 0, none⟩ : Addr).add j) = some u := by
  intro j u hj
  rw [add_at, Nat.zero_add, World.cell?_alloc_at _ _ _ _ rfl]
  simpa using hj

/-- append of one pick that has just been laid. -/
theorem wpList_append_pk1 {P : Program} {ops : Array Oper} {rest : List Oper} {o : Oper} {a : Act} {W : World} {Q : Exit → Act → World → Prop} (hgd : o.guard = none) (s x : Operand) (t : TypeId)
    (ho : o.op = .call { callee := .builtin .append, args := #[s, x], argTypes := #[t, t] })
    {B : Nat} {iI : TypeInfo} {z : Value} (ht : P.underlying t = some (.slice 32)) (hi : P.info? 32 = some iI) (hz : iI.zero = some z) (hzs : z.cells.size = 3) (hsize : iI.size = 3) (hby : iI.bytes = 24)
    {v : Value} {ps : List Pk} (hs : a.eval s = v) (hown : OwnPk B v ps W) (i : Pk) (cs : Array Value) (hcs : cs = i.cs) {H : Nat} (hH : W.heap.size = H) (hx : a.eval x = .slice (some ⟨H, 0, none⟩) 1 1)
    (h6 : ps.length ≤ 1000000) (hB : B ≤ W.heap.size)
    (h : ∀ v' w', OwnPk B v' (ps ++ [i]) w' → (v'.ownBlock = v.ownBlock ∨ v'.ownBlock = some (W.heap.size + 1)) → Wrote (fun b => v.ownBlock = some b) W w' → wpList P ops Q rest (a.put o.dst v') w') :
    wpList P ops Q (o :: rest) a (W.alloc (.cells cs 32)) := by
  subst hcs hH
  refine wpList_append_own_at _ hgd s x t ho B 32 iI z 3 24 ht hi hz hsize hby hzs (by decide) v ps.length (pkCells ps) hs (hown.below (bnew (bid W) _)).row ⟨W.heap.size, 0, none⟩ 1 1 [.int .i64 i.t, .bool i.a, .int .i64 i.d] hx rfl (cell_three_new _ _ _ _ _)
    (by intro u hu; simp only [List.mem_cons, List.not_mem_nil, or_false] at hu; rcases hu with rfl | rfl | rfl <;> rfl) (by unfold maxLen; omega) (by omega) (Nat.le_trans hB (bnew (bid W) _).size) ?_
  intro v' w' hown' hg _ hat
  refine h v' w' ⟨?_⟩ (by rw [size_alloc1] at hat; exact hat) ?_
  · rw [pkCells_snoc, List.length_append]
    exact hown'
  · exact ((Wrote.refl _ W).alloc _).grown hg fun j hj _ => hj

/-- The cells of a row that is read. -/
theorem PkRow.cells {w : World} {x : Addr} {n : Nat} {ps : List Pk} (h : PkRow w (some x) n ps) : ∀ j u, (pkCells ps)[j]? = some u → w.cell? (x.add j) = some u := by
  intro j u hj
  have hlt : j < ps.length * 3 := by rw [← pkCells_len]; exact (List.getElem?_eq_some_iff.1 hj).1
  have hcnt := h.cnt
  rcases h.row with h0 | ⟨b, off, h1, h2, h3⟩
  · omega
  · cases h1
    have hk : j / 3 < ps.length := by omega
    have hp : ps[j / 3]? = some ps[j / 3] := List.getElem?_eq_getElem hk
    obtain ⟨c0, c1, c2⟩ := h3 _ _ hp
    obtain ⟨g0, g1, g2⟩ := pkCells_at ps _ _ hp
    rw [add_at]
    have hr : j = j / 3 * 3 ∨ j = j / 3 * 3 + 1 ∨ j = j / 3 * 3 + 2 := by omega
    generalize j / 3 = q at *
    rcases hr with rfl | rfl | rfl
    · rw [← hj, g0]; exact c0
    · rw [← hj, g1, ← Nat.add_assoc]; exact c1
    · rw [← hj, g2, ← Nat.add_assoc]; exact c2

/-- append of a row of picks. -/
theorem wpList_append_pkRow {P : Program} {ops : Array Oper} {rest : List Oper} {o : Oper} {a : Act} {W : World} {Q : Exit → Act → World → Prop} (hgd : o.guard = none) (s x : Operand) (t : TypeId)
    (ho : o.op = .call { callee := .builtin .append, args := #[s, x], argTypes := #[t, t] })
    {B : Nat} {iI : TypeInfo} {z : Value} (ht : P.underlying t = some (.slice 32)) (hi : P.info? 32 = some iI) (hz : iI.zero = some z) (hzs : z.cells.size = 3) (hsize : iI.size = 3) (hby : iI.bytes = 24)
    {v : Value} {ps : List Pk} (hs : a.eval s = v) (hown : OwnPk B v ps W) {xa : Option Addr} {m c : Nat} {qs : List Pk} (hx : a.eval x = .slice xa m c) (hrow : PkRow W xa m qs) (hnc : xa = none → m = 0 ∧ c = 0)
    (h6 : ps.length + m ≤ 1000000) (hB : B ≤ W.heap.size)
    (h : ∀ v' w', OwnPk B v' (ps ++ qs) w' → (v'.ownBlock = v.ownBlock ∨ v'.ownBlock = some W.heap.size) → Wrote (fun b => v.ownBlock = some b) W w' → wpList P ops Q rest (a.put o.dst v') w') :
    wpList P ops Q (o :: rest) a W := by
  have hc := hrow.cnt
  match xa, hx, hrow, hnc with
  | none, hx, hrow, hnc =>
    obtain ⟨rfl, rfl⟩ := hnc rfl
    have : qs = [] := List.eq_nil_of_length_eq_zero hc
    subst this
    refine wpList_append_own_none hgd s x t ho B 32 iI 3 ht hi v ps.length (pkCells ps) hs hown.row hx ?_
    exact h v W (by rw [List.append_nil]; exact hown) (.inl rfl) (Wrote.refl _ _)
  | some y, hx, hrow, hnc =>
    refine wpList_append_own_at _ hgd s x t ho B 32 iI z 3 24 ht hi hz hsize hby hzs (by decide) v ps.length (pkCells ps) hs hown.row y m c (pkCells qs) hx (by rw [pkCells_len, hc]) hrow.cells (pkCells_one qs) (by unfold maxLen; omega) (by omega) hB ?_
    intro v' w' hown' hg _ hat
    refine h v' w' ⟨?_⟩ hat ?_
    · rw [pkCells_app, List.length_append, hc]
      exact hown'
    · exact (Wrote.refl _ W).grown hg fun j hj _ => hj

/-! ### Bytes -/
def byteCells (bs : List Nat) : List Value := bs.map fun (b : Nat) => Value.int .u8 (b : Int)
/-- A slice that reads as these bytes: nil, or a row of cells. -/
structure ByRow (w : World) (a : Option Addr) (len : Nat) (bs : List Nat) : Prop where
  cnt : bs.length = len
  row : len = 0 ∨ ∃ b off, a = some ⟨b, off, none⟩ ∧ b < w.heap.size ∧ ∀ k, k < len → w.cell? ⟨b, off + k, none⟩ = some (.int .u8 ((bs.getD k 0 : Nat) : Int))
  lt : ∀ b ∈ bs, b < 256
theorem ByRow.below {w w' : World} {a : Option Addr} {len : Nat} {bs : List Nat} (h : ByRow w a len bs) (hb : Below w.heap.size w w') : ByRow w' a len bs := by
  refine ⟨h.cnt, ?_, h.lt⟩
  rcases h.row with h' | ⟨b, off, rfl, hlt, hc⟩
  · exact .inl h'
  · exact .inr ⟨b, off, rfl, Nat.lt_of_lt_of_le hlt hb.size, fun k hk => (hb.cell (p := ⟨b, off + k, none⟩) hlt).trans (hc k hk)⟩
theorem ByRow.at {w : World} {a : Option Addr} {len : Nat} {bs : List Nat} (h : ByRow w a len bs) (hl : 0 < len) : ∃ b off, a = some ⟨b, off, none⟩ ∧ b < w.heap.size ∧ ∀ k, k < len → w.cell? ⟨b, off + k, none⟩ = some (.int .u8 ((bs.getD k 0 : Nat) : Int)) := by
  rcases h.row with h' | h'
  · omega
  · exact h'
theorem ByRow.small {w : World} {a : Option Addr} {len : Nat} {bs : List Nat} (h : ByRow w a len bs) {k : Nat} (hk : k < len) : bs.getD k 0 < 256 := by
  have hc := h.cnt
  rw [List.getD_eq_getElem?_getD, List.getElem?_eq_getElem (by omega)]
  exact h.lt _ (List.getElem_mem _)
/-- An argument's reading. -/
theorem ByRow.of_in {w : World} {a : Option Addr} {len cap : Nat} {zs : List Int} (h : (a = none ∧ len = 0 ∧ cap = 0 ∧ zs = []) ∨
    ∃ x, a = some x ∧ len ≤ cap ∧ cap ≤ maxLen ∧ zs.length = cap ∧ (∀ i, i < zs.length → w.cell? (x.add i) = some (.int .u8 (zs.getD i 0))) ∧ ∀ n ∈ zs, (Lit.int .u8 n).wf = true) :
    ByRow w a len ((zs.take len).map Int.toNat) ∧ len ≤ maxLen := by
  rcases h with ⟨rfl, rfl, rfl, rfl⟩ | ⟨x, rfl, hl, hm, hz, hc, hw⟩
  · exact ⟨⟨rfl, .inl rfl, by simp⟩, Nat.zero_le _⟩
  · have hb : ∀ n ∈ zs, 0 ≤ n ∧ n < 256 := fun n hn => by
      have := hw n hn
      simp [Lit.wf, IntKind.min, IntKind.max, IntKind.signed, IntKind.bits] at this
      omega
    refine ⟨⟨by rw [List.length_map, List.length_take]; omega, ?_, ?_⟩, Nat.le_trans hl hm⟩
    · rcases Nat.eq_zero_or_pos len with h0 | h0
      · exact .inl h0
      · right
        obtain ⟨b, off, sp⟩ := x
        have hc0 := hc 0 (by omega)
        rw [add_zero] at hc0
        have hsp : sp = none := by
          cases sp with
          | none => rfl
          | some q => simp only [World.cell?] at hc0; split at hc0 <;> simp at hc0
        subst hsp
        refine ⟨b, off, rfl, World.block_lt_of_cell? w _ hc0, fun k hk => ?_⟩
        have hck := hc k (by omega)
        rw [add_at] at hck
        rw [hck]
        have hkz : k < zs.length := by omega
        have hp := hb _ (List.getElem_mem hkz)
        simp only [List.getD_eq_getElem?_getD, List.getElem?_map, List.getElem?_take, if_pos hk, List.getElem?_eq_getElem hkz, Option.map_some, Option.getD_some]
        rw [Int.toNat_of_nonneg hp.1]
    · intro n hn
      obtain ⟨z, hz', rfl⟩ := List.mem_map.1 hn
      have := hb z (List.mem_of_mem_take hz')
      omega

/-- A slice of bytes that the call made. -/
structure OwnBy (B : Nat) (v : Value) (bs : List Nat) (w : World) : Prop where
  row : w.ownsRow B 5 1 v bs.length (byteCells bs)
theorem OwnBy.nil (B : Nat) (w : World) : OwnBy B (.slice none 0 0) [] w := ⟨World.ownsRow_nil _ _ _ _⟩
theorem OwnBy.shape {B : Nat} {v : Value} {bs : List Nat} {w : World} (h : OwnBy B v bs w) (hlt : ∀ b ∈ bs, b < 256) : ∃ a c, v = .slice a bs.length c ∧ ByRow w a bs.length bs ∧ (a = none → c = 0) ∧ bs.length ≤ c ∧ c ≤ maxLen := by
  rcases h.row.2 with ⟨h1, h0⟩ | ⟨g, cap, cur, h1, h2, h3, h4, h5, _⟩
  · exact ⟨none, 0, by rw [h1, h0], ⟨rfl, .inl h0, hlt⟩, fun _ => rfl, by omega, Nat.zero_le _⟩
  · have hr := h.row
    rw [h1] at hr
    refine ⟨some ⟨g, 0, none⟩, cap, h1, ⟨rfl, .inr ⟨g, 0, rfl, lt_of_block h3, fun k hk => ?_⟩, hlt⟩, fun h => (by cases h), h4, h5⟩
    rw [Nat.zero_add, hr.cellAt k (by omega)]
    simp [byteCells, hk]
theorem OwnBy.kept {S : Nat → Prop} {B : Nat} {v : Value} {bs : List Nat} {w w' : World} (h : OwnBy B v bs w) (hw : Wrote S w w') (hs : ∀ x, v.ownBlock = some x → ¬ S x) : OwnBy B v bs w' := ⟨own_wrote h.row hw hs⟩
theorem OwnBy.below {B : Nat} {v : Value} {bs : List Nat} {w w' : World} (h : OwnBy B v bs w) (hb : Below w.heap.size w w') : OwnBy B v bs w' := h.kept (Wrote.of_below hb (fun _ => False)) fun _ _ h => h
theorem OwnBy.store {B g c : Nat} {bs : List Nat} {w : World} (h : OwnBy B (.slice (some ⟨g, 0, none⟩) bs.length c) bs w) (k b : Nat) :
    OwnBy B (.slice (some ⟨g, 0, none⟩) bs.length c) (bs.set k b) (w.setCell ⟨g, k, none⟩ (.int .u8 (b : Int))) := by
  have h1 := (h.row.stored k (.int .u8 (b : Int))).1
  refine ⟨?_⟩
  rw [List.length_set]
  unfold byteCells
  rw [List.map_set]
  exact h1
theorem OwnBy.count {B g n c : Nat} {bs : List Nat} {w : World} (h : OwnBy B (.slice (some ⟨g, 0, none⟩) n c) bs w) : n = bs.length := by
  rcases h.row.2 with ⟨h1, _⟩ | ⟨g', cap, cur, h1, _⟩
  · simp at h1
  · simp only [Value.slice.injEq] at h1
    exact h1.2.1
theorem OwnBy.frozen {B g n c : Nat} {bs : List Nat} {w : World} (h : OwnBy B (.slice (some ⟨g, 0, none⟩) n c) bs w) (j : Nat) : w.frozen? ⟨g, j, none⟩ = false := by
  obtain rfl := h.count
  exact h.row.frozenAt j
theorem OwnBy.put {B g n c : Nat} {bs : List Nat} {w : World} (h : OwnBy B (.slice (some ⟨g, 0, none⟩) n c) bs w) (k b : Nat) :
    OwnBy B (.slice (some ⟨g, 0, none⟩) n c) (bs.set k b) (w.setCell ⟨g, k, none⟩ (.int .u8 (b : Int))) := by
  obtain rfl := h.count
  exact h.store k b
theorem OwnBy.at0 {B g n c : Nat} {bs : List Nat} {w : World} (h : OwnBy B (.slice (some ⟨g, 0, none⟩) n c) bs w) {k b : Nat} (hk : bs[k]? = some b) : w.cell? ⟨g, k, none⟩ = some (.int .u8 (b : Int)) := by
  obtain rfl := h.count
  have hl := (List.getElem?_eq_some_iff.1 hk).1
  rw [h.row.cellAt _ (by omega)]
  simp [byteCells, hk]
theorem OwnBy.old {B : Nat} {v : Value} {bs : List Nat} {w : World} (h : OwnBy B v bs w) {g : Nat} (hg : v.ownBlock = some g) : B ≤ g ∧ g < w.heap.size := h.row.lt g hg
/-- What make lays. -/
theorem OwnBy.made {B g n : Nat} {w : World} (h : w.ownsRow B 5 1 (.slice (some ⟨g, 0, none⟩) n n) n (madeCells (Value.int .u8 0).cells (n * 1)).toList) : OwnBy B (.slice (some ⟨g, 0, none⟩) n n) (List.replicate n 0) w := by
  have e : (madeCells (Value.int .u8 0).cells (n * 1)).toList = byteCells (List.replicate n 0) := by
    rw [show (Value.int .u8 0).cells = #[Value.int .u8 0] from rfl, toList_madeCells_one, Nat.mul_one]
    simp [byteCells]
  rw [e] at h
  refine ⟨?_⟩
  rw [List.length_replicate]
  exact h
theorem infoBy : (Try.prog.info? 5).map (fun i => (i.zero, i.size, i.bytes)) = some (some (.int .u8 0), 1, 1) := by kernel_rfl
theorem cell_one_new (w : World) (a : Value) (t : TypeId) : ∀ j u, [a][j]? = some u → (w.alloc (.cells #[a] t)).cell? ((⟨w.heap.size, 0, none⟩ : Addr).add j) = some u := by
  intro j u hj
  rw [add_at, Nat.zero_add, World.cell?_alloc_at _ _ _ _ rfl]
  simpa using hj
/-- append of one byte that has just been laid. -/
theorem wpList_append_by1 {P : Program} {ops : Array Oper} {rest : List Oper} {o : Oper} {a : Act} {W : World} {Q : Exit → Act → World → Prop} (hgd : o.guard = none) (s x : Operand) (t : TypeId)
    (ho : o.op = .call { callee := .builtin .append, args := #[s, x], argTypes := #[t, t] })
    {B : Nat} {iI : TypeInfo} {z : Value} (ht : P.underlying t = some (.slice 5)) (hi : P.info? 5 = some iI) (hz : iI.zero = some z) (hzs : z.cells.size = 1) (hsize : iI.size = 1) (hby : iI.bytes = 1)
    {v : Value} {bs : List Nat} (hs : a.eval s = v) (hown : OwnBy B v bs W) (b : Nat) (cs : Array Value) (hcs : cs = #[.int .u8 (b : Int)]) {H : Nat} (hH : W.heap.size = H) (hx : a.eval x = .slice (some ⟨H, 0, none⟩) 1 1)
    (h6 : bs.length ≤ 1000000) (hB : B ≤ W.heap.size)
    (h : ∀ v' w', OwnBy B v' (bs ++ [b]) w' → (v'.ownBlock = v.ownBlock ∨ v'.ownBlock = some (W.heap.size + 1)) → Wrote (fun b => v.ownBlock = some b) W w' → wpList P ops Q rest (a.put o.dst v') w') :
    wpList P ops Q (o :: rest) a (W.alloc (.cells cs 5)) := by
  subst hcs hH
  refine wpList_append_own_at _ hgd s x t ho B 5 iI z 1 1 ht hi hz hsize hby hzs (by decide) v bs.length (byteCells bs) hs (hown.below (bnew (bid W) _)).row ⟨W.heap.size, 0, none⟩ 1 1 [.int .u8 (b : Int)] hx rfl (cell_one_new _ _ _)
    (by intro u hu; simp only [List.mem_cons, List.not_mem_nil, or_false] at hu; rcases hu with rfl; rfl) (by unfold maxLen; omega) (by omega) (Nat.le_trans hB (bnew (bid W) _).size) ?_
  intro v' w' hown' hg _ hat
  refine h v' w' ⟨?_⟩ (by rw [size_alloc1] at hat; exact hat) ?_
  · rw [List.length_append]
    unfold byteCells
    rw [List.map_append]
    exact hown'
  · exact ((Wrote.refl _ W).alloc _).grown hg fun j hj _ => hj

end Go.Proofs.Ytbenbbgcdcafaaa
