/-
  A slice of instructions, read and grown.
-/
import Derived.Test.YtbobjhadckeieaaGreatDoorTMay
import Derived.Test.YtbobjhadckeieaaGreatDoorInts
import Derived.StillTail
import Derived.WalkSmall
import Derived.OpenShut
namespace Go.Proofs.YtbobjhadckeieaaGreatDoor
open Go.RowKit
set_option linter.unusedVariables false
set_option linter.unusedVariables false
/-- The world under one name, of which a few things are known. -/
theorem wp_rename {P : Program} {c : Code} {Q : Exit → Act → World → Prop} {a : Act} {w : World} (R : World → Prop) (hR : R w) (h : ∀ w', R w' → c.wp P Q a w') : c.wp P Q a w := h w hR
def Ins.cs (i : Ins) : Array Value := #[.int .i64 i.op, .int .i64 i.a, .int .i64 i.b, .int .i64 i.c, .int .i64 i.n]
/-- Five cells that are an instruction. -/
structure InsAt (w : World) (b o : Nat) (i : Ins) : Prop where
  c0 : w.cell? ⟨b, o, none⟩ = some (.int .i64 i.op)
  c1 : w.cell? ⟨b, o + 1, none⟩ = some (.int .i64 i.a)
  c2 : w.cell? ⟨b, o + 2, none⟩ = some (.int .i64 i.b)
  c3 : w.cell? ⟨b, o + 3, none⟩ = some (.int .i64 i.c)
  c4 : w.cell? ⟨b, o + 4, none⟩ = some (.int .i64 i.n)
theorem InsAt.keep {w w' : World} {b o : Nat} {i : Ins} (h : InsAt w b o i) (hb : w'.heap[b]? = w.heap[b]?) : InsAt w' b o i := by
  have e : ∀ j, w'.cell? ⟨b, j, none⟩ = w.cell? ⟨b, j, none⟩ := fun j => World.cell?_of_block (a := ⟨b, j, none⟩) hb
  exact ⟨(e _).trans h.c0, (e _).trans h.c1, (e _).trans h.c2, (e _).trans h.c3, (e _).trans h.c4⟩
theorem InsAt.lt {w : World} {b o : Nat} {i : Ins} (h : InsAt w b o i) : b < w.heap.size := World.block_lt_of_cell? w ⟨b, o, none⟩ h.c0
/-- A slice that reads as these instructions: nil, or a row of cells. -/
structure InsRow (w : World) (a : Option Addr) (len : Nat) (ps : List Ins) : Prop where
  cnt : ps.length = len
  row : (a = none ∧ len = 0) ∨ ∃ b off, a = some ⟨b, off, none⟩ ∧ b < w.heap.size ∧ ∀ k i, ps[k]? = some i → InsAt w b (off + k * 5) i
theorem InsRow.keep {w w' : World} {a : Option Addr} {len : Nat} {ps : List Ins} (h : InsRow w a len ps) (hs : w.heap.size ≤ w'.heap.size) (hb : ∀ x, a = some x → w'.heap[x.block]? = w.heap[x.block]?) : InsRow w' a len ps := by
  refine ⟨h.cnt, ?_⟩
  rcases h.row with h' | ⟨b, off, rfl, hlt, hc⟩
  · exact .inl h'
  · exact .inr ⟨b, off, rfl, Nat.lt_of_lt_of_le hlt hs, fun k i hk => (hc k i hk).keep (hb _ rfl)⟩
theorem InsRow.below {w w' : World} {a : Option Addr} {len : Nat} {ps : List Ins} (h : InsRow w a len ps) (hb : Below w.heap.size w w') : InsRow w' a len ps := by
  refine ⟨h.cnt, ?_⟩
  rcases h.row with h' | ⟨b, off, rfl, hlt, hc⟩
  · exact .inl h'
  · exact .inr ⟨b, off, rfl, Nat.lt_of_lt_of_le hlt hb.size, fun k i hk => (hc k i hk).keep (hb.block b hlt)⟩
theorem InsRow.at {w : World} {a : Option Addr} {len : Nat} {ps : List Ins} (h : InsRow w a len ps) (hl : 0 < len) : ∃ b off, a = some ⟨b, off, none⟩ ∧ b < w.heap.size ∧ ∀ k i, ps[k]? = some i → InsAt w b (off + k * 5) i := by
  rcases h.row with ⟨_, h'⟩ | h'
  · omega
  · exact h'
set_option linter.unusedVariables false
/-- The cells of some instructions, one behind the other. -/
def insCells (ps : List Ins) : List Value := ps.flatMap fun i => [.int .i64 i.op, .int .i64 i.a, .int .i64 i.b, .int .i64 i.c, .int .i64 i.n]
theorem insCells_len (ps : List Ins) : (insCells ps).length = ps.length * 5 := by
  induction ps with
  | nil => rfl
  | cons p l ih => simp only [insCells, List.flatMap_cons, List.length_append, List.length_cons, List.length_nil] at ih ⊢; omega
theorem insCells_at : ∀ (ps : List Ins) (k : Nat) (i : Ins), ps[k]? = some i → (insCells ps)[k * 5]? = some (.int .i64 i.op) ∧ (insCells ps)[k * 5 + 1]? = some (.int .i64 i.a) ∧ (insCells ps)[k * 5 + 2]? = some (.int .i64 i.b) ∧ (insCells ps)[k * 5 + 3]? = some (.int .i64 i.c) ∧ (insCells ps)[k * 5 + 4]? = some (.int .i64 i.n) := by
  intro ps
  induction ps with
  | nil => intro k i h; simp at h
  | cons p l ih =>
    intro k i h
    have e : insCells (p :: l) = [.int .i64 p.op, .int .i64 p.a, .int .i64 p.b, .int .i64 p.c, .int .i64 p.n] ++ insCells l := by simp [insCells]
    rw [e]
    match k, h with
    | 0, h =>
      simp only [List.getElem?_cons_zero, Option.some.injEq] at h
      subst h
      exact ⟨rfl, rfl, rfl, rfl, rfl⟩
    | k + 1, h =>
      simp only [List.getElem?_cons_succ] at h
      have := ih k i h
      have e5 : ∀ j, (k + 1) * 5 + j = (k * 5 + j) + 5 := fun j => by omega
      have e6 : (k + 1) * 5 = k * 5 + 5 := by omega
      rw [e5, e5, e5, e5, e6]
      exact this
/-- What a literal lays. -/
theorem InsRow.lit (ps : List Ins) (n : Nat) (w : World) (E : TypeId) (cs : Array Value) (h : cs = (insCells ps).toArray) (hn : ps.length = n) : InsRow (w.alloc (.cells cs E)) (some ⟨w.heap.size, 0, none⟩) n ps := by
  subst h
  refine ⟨hn, .inr ⟨w.heap.size, 0, rfl, by simp, fun k i hk => ?_⟩⟩
  obtain ⟨h0, h1, h2, h3, h4⟩ := insCells_at ps k i hk
  have e : ∀ j, (w.alloc (.cells (insCells ps).toArray E)).cell? ⟨w.heap.size, j, none⟩ = (insCells ps)[j]? := fun j => by
    rw [World.cell?_alloc_at _ _ _ _ rfl]
    simp
  refine ⟨?_, ?_, ?_, ?_, ?_⟩ <;> rw [e, Nat.zero_add] <;> assumption
set_option linter.unusedVariables false
attribute [local go_sem] Later.cell Later.frozen
theorem cell_five_new (w : World) (a b c d e : Value) (t : TypeId) : ∀ j u, [a, b, c, d, e][j]? = some u → (w.alloc (.cells #[a, b, c, d, e] t)).cell? ((⟨w.heap.size, 0, none⟩ : Addr).add j) = some u := by
  intro j u hj
  rw [add_at, Nat.zero_add, World.cell?_alloc_at _ _ _ _ rfl]
  simpa using hj
theorem five_one (a b c d e : Int) : ∀ u ∈ [Value.int .i64 a, .int .i64 b, .int .i64 c, .int .i64 d, .int .i64 e], u.oneCell' = true := by
  intro u hu
  simp only [List.mem_cons, List.not_mem_nil, or_false] at hu
  rcases hu with rfl | rfl | rfl | rfl | rfl <;> rfl
theorem insCells_snoc (ps : List Ins) (i : Ins) : insCells (ps ++ [i]) = insCells ps ++ [.int .i64 i.op, .int .i64 i.a, .int .i64 i.b, .int .i64 i.c, .int .i64 i.n] := by simp [insCells]
theorem infoIns : (Tryz.prog.info? 40).map (fun i => (i.zero, i.size, i.bytes)) = some (some (.agg #[.int .i64 0, .int .i64 0, .int .i64 0, .int .i64 0, .int .i64 0]), 5, 40) := by kernel_rfl
/-- A row of instructions of the call's own reads as a slice of instructions. -/
theorem InsRow.of_own {w : World} {B n : Nat} {E : TypeId} {a : Option Addr} {c : Nat} {ps : List Ins} (h : w.ownsRow B E 5 (.slice a n c) n (insCells ps)) : InsRow w a n ps := by
  have hl : ps.length = n := by have := h.1; rw [insCells_len] at this; omega
  refine ⟨hl, ?_⟩
  rcases h.2 with ⟨h1, h0⟩ | ⟨g, cap, cur, h1, h2, h3, _⟩
  · simp only [Value.slice.injEq] at h1
    exact .inl ⟨h1.1, h0⟩
  · simp only [Value.slice.injEq] at h1
    obtain ⟨rfl, _, rfl⟩ := h1
    refine .inr ⟨g, 0, rfl, lt_of_block h3, fun k i hk => ?_⟩
    have hkn : k < n := by rw [← hl]; exact (List.getElem?_eq_some_iff.1 hk).1
    obtain ⟨g0, g1, g2, g3, g4⟩ := insCells_at ps k i hk
    refine ⟨?_, ?_, ?_, ?_, ?_⟩ <;> rw [Nat.zero_add, h.cellAt _ (by omega)] <;> assumption
theorem wpList_append_ins {P : Program} {ops : Array Oper} {rest : List Oper} {o : Oper} {a : Act} {W : World} {Q : Exit → Act → World → Prop} (hgd : o.guard = none) (s x : Operand) (t : TypeId)
    (ho : o.op = .call { callee := .builtin .append, args := #[s, x], argTypes := #[t, t] })
    {B : Nat} {e : TypeId} {iI : TypeInfo} {z : Value} (ht : P.underlying t = some (.slice e)) (hi : P.info? e = some iI) (hz : iI.zero = some z) (hzs : z.cells.size = 5) (hsize : iI.size = 5) (hby : iI.bytes = 40)
    {v : Value} {n : Nat} {ps : List Ins} (hs : a.eval s = v) (hown : W.ownsRow B e 5 v n (insCells ps)) (p q r u y : Int) (hx : a.eval x = .slice (some ⟨W.heap.size, 0, none⟩) 1 1)
    (h6 : n + 1 ≤ maxLen) (h7 : (n + 1) * 40 ≤ 140737488355328) (hB : B ≤ W.heap.size)
    (h : ∀ v' w', w'.ownsRow B e 5 v' (n + 1) (insCells (ps ++ [⟨p, q, r, u, y⟩])) → (v'.ownBlock = v.ownBlock ∨ v'.ownBlock = some (W.heap.size + 1)) → Wrote (fun b => v.ownBlock = some b) W w' → wpList P ops Q rest (a.put o.dst v') w') :
    wpList P ops Q (o :: rest) a (W.alloc (.cells #[.int .i64 p, .int .i64 q, .int .i64 r, .int .i64 u, .int .i64 y] e)) := by
  refine wpList_append_own_at _ hgd s x t ho B e iI z 5 40 ht hi hz hsize hby hzs (by decide) v n (insCells ps) hs (hown.alloc _) ⟨W.heap.size, 0, none⟩ 1 1 [.int .i64 p, .int .i64 q, .int .i64 r, .int .i64 u, .int .i64 y] hx rfl (cell_five_new _ _ _ _ _ _ _) (five_one _ _ _ _ _) h6 h7 (Nat.le_trans hB (bnew (bid W) _).size) ?_
  intro v' w' hown' hg _ hat
  refine h v' w' (by rw [insCells_snoc]; exact hown') (by rw [size_alloc1] at hat; exact hat) ?_
  exact ((Wrote.refl _ W).alloc _).grown hg fun j hj _ => hj
theorem nil_or_snoc {α : Type} (l : List α) : l = [] ∨ ∃ t x, l = t ++ [x] := by
  rcases List.eq_nil_or_concat l with h | ⟨t, x, h⟩
  · exact .inl h
  · exact .inr ⟨t, x, by rw [h, List.concat_eq_append]⟩
theorem own_wrote {S : Nat → Prop} {w w' : World} {B : Nat} {e : TypeId} {sz n : Nat} {v : Value} {xs : List Value} (h : w.ownsRow B e sz v n xs) (hw : Wrote S w w') (hs : ∀ x, v.ownBlock = some x → ¬ S x) : w'.ownsRow B e sz v n xs := by
  refine ⟨h.1, ?_⟩
  rcases h.2 with h' | ⟨g, cap, cur, rfl, h1, h2, h3⟩
  · exact .inl h'
  · refine .inr ⟨g, cap, cur, rfl, h1, ?_, h3⟩
    rw [hw.block g (lt_of_block h2) (hs g rfl)]
    exact h2
theorem bdrewN {w W : World} {n : Nat} (h : Below w.heap.size w W) : Below w.heap.size w (W.drewN n) := ⟨h.os, h.tape, h.output, h.size, h.block⟩
theorem quiet_mine {P : Program} {f : FuncId} {args : Array Value} {w : World} {n : Nat} {v : Value}
    (h : Calls P f args (w.drewN n) fun e w' => e = .returned v ∧ w.drewN n = w') : Calls P f args (w.drewN n) fun e w'' => e = .returned v ∧ ∃ m, w'' = w.drewN m :=
  h.mono fun _ _ ⟨he, hm⟩ => ⟨he, n, hm.symm⟩

end Go.Proofs.YtbobjhadckeieaaGreatDoor
