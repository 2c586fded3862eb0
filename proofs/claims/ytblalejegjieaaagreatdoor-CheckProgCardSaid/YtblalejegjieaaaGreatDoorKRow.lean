/-
  Rows of instructions that a call owns: one more behind, or a whole row.
-/
import Derived.Test.YtblalejegjieaaaGreatDoorMates
import Derived.Test.YtblalejegjieaaaGreatDoorFirst
import Derived.OpenShut
namespace Go.Proofs.YtblalejegjieaaaGreatDoor
open Go.RowKit
set_option linter.unusedVariables false

/-- The cells of some instructions, one behind the other. -/
def insCells (ps : List Ins) : List Value := ps.flatMap fun i => [.int .i64 i.op, .int .i64 i.a, .int .i64 i.b, .int .i64 i.c, .int .i64 i.n]
theorem insCells_len (ps : List Ins) : (insCells ps).length = ps.length * 5 := by
  induction ps with
  | nil => rfl
  | cons p l ih => simp only [insCells, List.flatMap_cons, List.length_append, List.length_cons, List.length_nil] at ih ⊢; omega
theorem insCells_app (ps qs : List Ins) : insCells (ps ++ qs) = insCells ps ++ insCells qs := by simp [insCells]
theorem insCells_at : ∀ (ps : List Ins) (k : Nat) (i : Ins), ps[k]? = some i → (insCells ps)[k * 5]? = some (.int .i64 i.op) ∧ (insCells ps)[k * 5 + 1]? = some (.int .i64 i.a) ∧ (insCells ps)[k * 5 + 2]? = some (.int .i64 i.b) ∧ (insCells ps)[k * 5 + 3]? = some (.int .i64 i.c) ∧ (insCells ps)[k * 5 + 4]? = some (.int .i64 i.n) := by
  intro ps
  induction ps with
  | nil => intro k i h; simp at h
  | cons p l ih =>
    intro k i h
    have e : insCells (p :: l) = [.int .i64 p.op, .int .i64 p.a, .int .i64 p.b, .int .i64 p.c, .int .i64 p.n] ++ insCells l := by simp [insCells]
    rw [e]
    match k, h with
    | 0, h =>
      simp only [List.getElem?_cons_zero, Option.some.injEq] at h
      subst h
      exact ⟨rfl, rfl, rfl, rfl, rfl⟩
    | k + 1, h =>
      simp only [List.getElem?_cons_succ] at h
      have := ih k i h
      have e5 : ∀ j, (k + 1) * 5 + j = (k * 5 + j) + 5 := fun j => by omega
      have e6 : (k + 1) * 5 = k * 5 + 5 := by omega
      rw [e5, e5, e5, e5, e6]
      exact this
theorem insCells_one (ps : List Ins) : ∀ u ∈ insCells ps, u.oneCell' = true := by
  intro u hu
  unfold insCells at hu
  obtain ⟨i, _, hi⟩ := List.mem_flatMap.1 hu
  simp only [List.mem_cons, List.not_mem_nil, or_false] at hi
  rcases hi with rfl | rfl | rfl | rfl | rfl <;> rfl

/-- What a literal lays. -/
theorem InsRow.lit (ps : List Ins) (n : Nat) (w : World) (E : TypeId) (cs : Array Value) (h : cs = (insCells ps).toArray) (hn : ps.length = n) : InsRow (w.alloc (.cells cs E)) (some ⟨w.heap.size, 0, none⟩) n ps := by
  subst h
  refine ⟨hn, .inr ⟨w.heap.size, 0, rfl, by simp, fun k i hk => ?_⟩⟩
  obtain ⟨h0, h1, h2, h3, h4⟩ := insCells_at ps k i hk
  have e : ∀ j, (w.alloc (.cells (insCells ps).toArray E)).cell? ⟨w.heap.size, j, none⟩ = (insCells ps)[j]? := fun j => by
    rw [World.cell?_alloc_at _ _ _ _ rfl]
    simp
  refine ⟨?_, ?_, ?_, ?_, ?_⟩ <;> rw [e, Nat.zero_add] <;> assumption
theorem IntRow.lit (zs : List Int) (E : TypeId) (w : World) (cs : Array Value) (h : cs = (zs.map (Value.int .i64)).toArray) (n : Nat) (hn : n = zs.length) : IntRow (w.alloc (.cells cs E)) (some ⟨w.heap.size, 0, none⟩) n zs := by
  subst h hn
  refine ⟨rfl, .inr ⟨_, rfl, fun j hj => ?_⟩⟩
  rw [add_at, World.cell?_alloc_at _ _ _ _ rfl]
  simp [hj]

theorem InsRow.cells {w : World} {b off n : Nat} {ps : List Ins} (h : InsRow w (some ⟨b, off, none⟩) n ps) : ∀ j u, (insCells ps)[j]? = some u → w.cell? ((⟨b, off, none⟩ : Addr).add j) = some u := by
  intro j u hj
  have hlt : j < ps.length * 5 := by rw [← insCells_len]; exact (List.getElem?_eq_some_iff.1 hj).1
  have hk : j / 5 < ps.length := by omega
  rcases h.row with ⟨h', _⟩ | ⟨b', off', h1, h2, h3⟩
  · cases h'
  · cases h1
    have hp : ps[j / 5]? = some ps[j / 5] := List.getElem?_eq_getElem hk
    obtain ⟨c0, c1, c2, c3, c4⟩ := h3 _ _ hp
    obtain ⟨g0, g1, g2, g3, g4⟩ := insCells_at ps _ _ hp
    rw [add_at]
    have hr : j = j / 5 * 5 ∨ j = j / 5 * 5 + 1 ∨ j = j / 5 * 5 + 2 ∨ j = j / 5 * 5 + 3 ∨ j = j / 5 * 5 + 4 := by omega
    generalize j / 5 = q at *
    rcases hr with rfl | rfl | rfl | rfl | rfl
    · rw [← hj, g0]; exact c0
    · rw [← hj, g1, ← Nat.add_assoc]; exact c1
    · rw [← hj, g2, ← Nat.add_assoc]; exact c2
    · rw [← hj, g3, ← Nat.add_assoc]; exact c3
    · rw [← hj, g4, ← Nat.add_assoc]; exact c4

theorem cell_five_new (w : World) (a b c d e : Value) (t : TypeId) : ∀ j u, [a, b, c, d, e][j]? = some u → (w.alloc (.cells #[a, b, c, d, e] t)).cell? ((⟨w.heap.size, 0, none⟩ : Addr).add j) = some u := by
  intro j u hj
  rw [add_at, Nat.zero_add, World.cell?_alloc_at _ _ _ _ rfl]
  simpa using hj
theorem five_one (a b c d e : Int) : ∀ u ∈ [Value.int .i64 a, .int .i64 b, .int .i64 c, .int .i64 d, .int .i64 e], u.oneCell' = true := by
  intro u hu
  simp only [List.mem_cons, List.not_mem_nil, or_false] at hu
  rcases hu with rfl | rfl | rfl | rfl | rfl <;> rfl
theorem insCells_snoc (ps : List Ins) (i : Ins) : insCells (ps ++ [i]) = insCells ps ++ [.int .i64 i.op, .int .i64 i.a, .int .i64 i.b, .int .i64 i.c, .int .i64 i.n] := by simp [insCells]
theorem infoIns : (Tryz.prog.info? 40).map (fun i => (i.zero, i.size, i.bytes)) = some (some (.agg #[.int .i64 0, .int .i64 0, .int .i64 0, .int .i64 0, .int .i64 0]), 5, 40) := by kernel_rfl

/-- A row of instructions of the call's own reads as a slice of instructions. -/
theorem InsRow.of_own {w : World} {B n : Nat} {E : TypeId} {a : Option Addr} {c : Nat} {ps : List Ins} (h : w.ownsRow B E 5 (.slice a n c) n (insCells ps)) : InsRow w a n ps := by
  have hl : ps.length = n := by have := h.1; rw [insCells_len] at this; omega
  refine ⟨hl, ?_⟩
  rcases h.2 with ⟨h1, h0⟩ | ⟨g, cap, cur, h1, h2, h3, _⟩
  · simp only [Value.slice.injEq] at h1
    exact .inl ⟨h1.1, h0⟩
  · simp only [Value.slice.injEq] at h1
    obtain ⟨rfl, _, rfl⟩ := h1
    refine .inr ⟨g, 0, rfl, lt_of_block h3, fun k i hk => ?_⟩
    have hkn : k < n := by rw [← hl]; exact (List.getElem?_eq_some_iff.1 hk).1
    obtain ⟨g0, g1, g2, g3, g4⟩ := insCells_at ps k i hk
    refine ⟨?_, ?_, ?_, ?_, ?_⟩ <;> rw [Nat.zero_add, h.cellAt _ (by omega)] <;> assumption

/-- A slice of instructions that the call made: from block B on. -/
structure OwnIns (B : Nat) (v : Value) (ps : List Ins) (w : World) : Prop where
  row : w.ownsRow B 40 5 v ps.length (insCells ps)
theorem OwnIns.nil (B : Nat) (w : World) : OwnIns B (.slice none 0 0) [] w := ⟨World.ownsRow_nil _ _ _ _⟩
theorem OwnIns.shape {B : Nat} {v : Value} {ps : List Ins} {w : World} (h : OwnIns B v ps w) : ∃ a c, v = .slice a ps.length c ∧ InsRow w a ps.length ps ∧ (a = none → c = 0) ∧ ps.length ≤ c ∧ c ≤ maxLen := by
  rcases h.row.2 with ⟨h1, h0⟩ | ⟨g, cap, cur, h1, h2, h3, h4, h5, _⟩
  · refine ⟨none, 0, by rw [h1, h0], ?_, fun _ => rfl, by omega, Nat.zero_le _⟩
    have hr := h.row
    rw [h1] at hr
    rw [h0] at hr ⊢
    exact .of_own hr
  · refine ⟨some ⟨g, 0, none⟩, cap, h1, ?_, fun h => (by cases h), h4, h5⟩
    have hr := h.row
    rw [h1] at hr
    exact .of_own hr
theorem OwnIns.mono {B B' : Nat} {v : Value} {ps : List Ins} {w : World} (h : OwnIns B v ps w) (hB : B' ≤ B) : OwnIns B' v ps w := by
  refine ⟨h.row.1, ?_⟩
  rcases h.row.2 with h' | ⟨g, cap, cur, h1, h2, h3⟩
  · exact .inl h'
  · exact .inr ⟨g, cap, cur, h1, Nat.le_trans hB h2, h3⟩
theorem OwnIns.kept {S : Nat → Prop} {B : Nat} {v : Value} {ps : List Ins} {w w' : World} (h : OwnIns B v ps w) (hw : Wrote S w w') (hs : ∀ x, v.ownBlock = some x → ¬ S x) : OwnIns B v ps w' := ⟨own_wrote h.row hw hs⟩
theorem OwnIns.below {B : Nat} {v : Value} {ps : List Ins} {w w' : World} (h : OwnIns B v ps w) (hb : Below w.heap.size w w') : OwnIns B v ps w' := h.kept (Wrote.of_below hb (fun _ => False)) fun _ _ h => h
theorem OwnIns.old {B : Nat} {v : Value} {ps : List Ins} {w : World} (h : OwnIns B v ps w) {g : Nat} (hg : v.ownBlock = some g) : B ≤ g ∧ g < w.heap.size := h.row.lt g hg
/-- What a literal lays. -/
theorem OwnIns.lit (ps : List Ins) (n : Nat) (w : World) (cs : Array Value) (B : Nat) (h : cs = (insCells ps).toArray) (hn : ps.length = n) (hB : B ≤ w.heap.size) (hm : n ≤ 1000) : OwnIns B (.slice (some ⟨w.heap.size, 0, none⟩) n n) ps (w.alloc (.cells cs 40)) := by
  subst h hn
  refine ⟨by rw [insCells_len], .inr ⟨w.heap.size, ps.length, _, rfl, hB, heap_alloc_new _ _, Nat.le_refl _, by unfold maxLen; omega, by simp [insCells_len], by simp [List.take_of_length_le, insCells_len]⟩⟩

/-- append of one instruction that has just been laid. -/
theorem wpList_append_ins1 {P : Program} {ops : Array Oper} {rest : List Oper} {o : Oper} {a : Act} {W : World} {Q : Exit → Act → World → Prop} (hgd : o.guard = none) (s x : Operand) (t : TypeId)
    (ho : o.op = .call { callee := .builtin .append, args := #[s, x], argTypes := #[t, t] })
    {B : Nat} {iI : TypeInfo} {z : Value} (ht : P.underlying t = some (.slice 40)) (hi : P.info? 40 = some iI) (hz : iI.zero = some z) (hzs : z.cells.size = 5) (hsize : iI.size = 5) (hby : iI.bytes = 40)
    {v : Value} {ps : List Ins} (hs : a.eval s = v) (hown : OwnIns B v ps W) (i : Ins) (cs : Array Value) (hcs : cs = i.cs) (hx : a.eval x = .slice (some ⟨W.heap.size, 0, none⟩) 1 1)
    (h6 : ps.length ≤ 1000) (hB : B ≤ W.heap.size)
    (h : ∀ v' w', OwnIns B v' (ps ++ [i]) w' → (v'.ownBlock = v.ownBlock ∨ v'.ownBlock = some (W.heap.size + 1)) → Wrote (fun b => v.ownBlock = some b) W w' → wpList P ops Q rest (a.put o.dst v') w') :
    wpList P ops Q (o :: rest) a (W.alloc (.cells cs 40)) := by
  subst hcs
  refine wpList_append_own_at _ hgd s x t ho B 40 iI z 5 40 ht hi hz hsize hby hzs (by decide) v ps.length (insCells ps) hs (hown.below (bnew (bid W) _)).row ⟨W.heap.size, 0, none⟩ 1 1 [.int .i64 i.op, .int .i64 i.a, .int .i64 i.b, .int .i64 i.c, .int .i64 i.n] hx rfl (cell_five_new _ _ _ _ _ _ _) (five_one _ _ _ _ _) (by unfold maxLen; omega) (by omega) (Nat.le_trans hB (bnew (bid W) _).size) ?_
  intro v' w' hown' hg _ hat
  refine h v' w' ⟨?_⟩ (by rw [size_alloc1] at hat; exact hat) ?_
  · rw [insCells_snoc, List.length_append]
    exact hown'
  · exact ((Wrote.refl _ W).alloc _).grown hg fun j hj _ => hj

/-- append of a row of instructions. -/
theorem wpList_append_insRow {P : Program} {ops : Array Oper} {rest : List Oper} {o : Oper} {a : Act} {W : World} {Q : Exit → Act → World → Prop} (hgd : o.guard = none) (s x : Operand) (t : TypeId)
    (ho : o.op = .call { callee := .builtin .append, args := #[s, x], argTypes := #[t, t] })
    {B : Nat} {iI : TypeInfo} {z : Value} (ht : P.underlying t = some (.slice 40)) (hi : P.info? 40 = some iI) (hz : iI.zero = some z) (hzs : z.cells.size = 5) (hsize : iI.size = 5) (hby : iI.bytes = 40)
    {v : Value} {ps : List Ins} (hs : a.eval s = v) (hown : OwnIns B v ps W) {xa : Option Addr} {m c : Nat} {qs : List Ins} (hx : a.eval x = .slice xa m c) (hrow : InsRow W xa m qs) (hnc : xa = none → c = 0)
    (h6 : ps.length + m ≤ 1000) (hB : B ≤ W.heap.size)
    (h : ∀ v' w', OwnIns B v' (ps ++ qs) w' → (v'.ownBlock = v.ownBlock ∨ v'.ownBlock = some W.heap.size) → Wrote (fun b => v.ownBlock = some b) W w' → wpList P ops Q rest (a.put o.dst v') w') :
    wpList P ops Q (o :: rest) a W := by
  have hc := hrow.cnt
  rcases hrow.row with ⟨rfl, h0⟩ | ⟨b, off, rfl, hlt, _⟩
  · obtain rfl := hnc rfl
    subst h0
    have : qs = [] := List.eq_nil_of_length_eq_zero hc
    subst this
    refine wpList_append_own_none hgd s x t ho B 40 iI 5 ht hi v ps.length (insCells ps) hs hown.row hx ?_
    exact h v W (by rw [List.append_nil]; exact hown) (.inl rfl) (Wrote.refl _ _)
  · refine wpList_append_own_at _ hgd s x t ho B 40 iI z 5 40 ht hi hz hsize hby hzs (by decide) v ps.length (insCells ps) hs hown.row ⟨b, off, none⟩ m c (insCells qs) hx (by rw [insCells_len, hc]) hrow.cells (insCells_one qs) (by unfold maxLen; omega) (by omega) hB ?_
    intro v' w' hown' hg _ hat
    refine h v' w' ⟨?_⟩ hat ?_
    · rw [insCells_app, List.length_append, hc]
      exact hown'
    · exact (Wrote.refl _ W).grown hg fun j hj _ => hj

end Go.Proofs.YtblalejegjieaaaGreatDoor
