/-
  Blocks of layer 4: it answers some program, as long as the list.
-/
import Derived.Test.YthhgeanmlpmokaaETold
import Derived.Test.YthhgeanmlpmokaaEIns
import Derived.Test.YthhgeanmlpmokaaFirst
import Derived.OpenShut
namespace Go.Proofs.Ythhgeanmlpmokaa
open Go.RowKit
set_option linter.unusedVariables false
attribute [local go_sem] Later.cell Later.frozen

theorem cell_five_new (w : World) (a b c d e : Value) (t : TypeId) : ∀ j u, [a, b, c, d, e][j]? = some u → (w.alloc (.cells #[a, b, c, d, e] t)).cell? ((⟨w.heap.size, 0, none⟩ : Addr).add j) = some u := by
  intro j u hj
  rw [add_at, Nat.zero_add, World.cell?_alloc_at _ _ _ _ rfl]
  simpa using hj
theorem five_one (a b c d e : Int) : ∀ u ∈ [Value.int .i64 a, .int .i64 b, .int .i64 c, .int .i64 d, .int .i64 e], u.oneCell' = true := by
  intro u hu
  simp only [List.mem_cons, List.not_mem_nil, or_false] at hu
  rcases hu with rfl | rfl | rfl | rfl | rfl <;> rfl
theorem insCells_snoc (ps : List Ins) (i : Ins) : insCells (ps ++ [i]) = insCells ps ++ [.int .i64 i.op, .int .i64 i.a, .int .i64 i.b, .int .i64 i.c, .int .i64 i.n] := by simp [insCells]
theorem infoIns : (Try.prog.info? 27).map (fun i => (i.zero, i.size, i.bytes)) = some (some (.agg #[.int .i64 0, .int .i64 0, .int .i64 0, .int .i64 0, .int .i64 0]), 5, 40) := by kernel_rfl

/-- A row of instructions of the call's own reads as a slice of instructions. -/
theorem InsRow.of_own {w : World} {B n : Nat} {E : TypeId} {a : Option Addr} {c : Nat} {ps : List Ins} (h : w.ownsRow B E 5 (.slice a n c) n (insCells ps)) : InsRow w a n ps := by
  have hl : ps.length = n := by have := h.1; rw [insCells_len] at this; omega
  refine ⟨hl, ?_⟩
  rcases h.2 with ⟨h1, h0⟩ | ⟨g, cap, cur, h1, h2, h3, _⟩
  · simp only [Value.slice.injEq] at h1
    exact .inl ⟨h1.1, h0⟩
  · simp only [Value.slice.injEq] at h1
    obtain ⟨rfl, _, rfl⟩ := h1
    refine .inr ⟨g, 0, rfl, lt_of_block h3, fun k i hk => ?_⟩
    have hkn : k < n := by rw [← hl]; exact (List.getElem?_eq_some_iff.1 hk).1
    obtain ⟨g0, g1, g2, g3, g4⟩ := insCells_at ps k i hk
    refine ⟨?_, ?_, ?_, ?_, ?_⟩ <;> rw [Nat.zero_add, h.cellAt _ (by omega)] <;> assumption

theorem wpList_append_ins {P : Program} {ops : Array Oper} {rest : List Oper} {o : Oper} {a : Act} {W : World} {Q : Exit → Act → World → Prop} (hgd : o.guard = none) (s x : Operand) (t : TypeId)
    (ho : o.op = .call { callee := .builtin .append, args := #[s, x], argTypes := #[t, t] })
    {B : Nat} {e : TypeId} {iI : TypeInfo} {z : Value} (ht : P.underlying t = some (.slice e)) (hi : P.info? e = some iI) (hz : iI.zero = some z) (hzs : z.cells.size = 5) (hsize : iI.size = 5) (hby : iI.bytes = 40)
    {v : Value} {n : Nat} {ps : List Ins} (hs : a.eval s = v) (hown : W.ownsRow B e 5 v n (insCells ps)) (p q r u y : Int) (hx : a.eval x = .slice (some ⟨W.heap.size, 0, none⟩) 1 1)
    (h6 : n + 1 ≤ maxLen) (h7 : (n + 1) * 40 ≤ 140737488355328) (hB : B ≤ W.heap.size)
    (h : ∀ v' w', w'.ownsRow B e 5 v' (n + 1) (insCells (ps ++ [⟨p, q, r, u, y⟩])) → (v'.ownBlock = v.ownBlock ∨ v'.ownBlock = some (W.heap.size + 1)) → Wrote (fun b => v.ownBlock = some b) W w' → wpList P ops Q rest (a.put o.dst v') w') :
    wpList P ops Q (o :: rest) a (W.alloc (.cells #[.int .i64 p, .int .i64 q, .int .i64 r, .int .i64 u, .int .i64 y] e)) := by
  refine wpList_append_own_at _ hgd s x t ho B e iI z 5 40 ht hi hz hsize hby hzs (by decide) v n (insCells ps) hs (hown.alloc _) ⟨W.heap.size, 0, none⟩ 1 1 [.int .i64 p, .int .i64 q, .int .i64 r, .int .i64 u, .int .i64 y] hx rfl (cell_five_new _ _ _ _ _ _ _) (five_one _ _ _ _ _) h6 h7 (Nat.le_trans hB (bnew (bid W) _).size) ?_
  intro v' w' hown' hg _ hat
  refine h v' w' (by rw [insCells_snoc]; exact hown') (by rw [size_alloc1] at hat; exact hat) ?_
  exact ((Wrote.refl _ W).alloc _).grown hg fun j hj _ => hj

def ops9 : Array Value := #[.int .i64 18, .int .i64 19, .int .i64 20, .int .i64 21, .int .i64 22, .int .i64 13, .int .i64 14, .int .i64 1, .int .i64 12]
structure BlkAt (w : World) (k : Nat) (v : Value) (wr : World) : Prop where
  row : ∃ ps : List Ins, ps.length = k ∧ wr.ownsRow w.heap.size 27 5 v k (insCells ps)
  ops : wr.heap[w.heap.size]? = some (.cells ops9 3 (0, 0))
  ne : v.ownBlock ≠ some w.heap.size
  below : Below w.heap.size w wr
theorem BlkAt.next {w wr w' : World} {k : Nat} {v v' : Value} {ps : List Ins} {i : Ins} (h : BlkAt w k v wr) (x : Later wr) (hps : ps.length = k) (ho : wr.ownsRow w.heap.size 27 5 v k (insCells ps))
    (hown : w'.ownsRow w.heap.size 27 5 v' (k + 1) (insCells (ps ++ [i]))) (hat : v'.ownBlock = v.ownBlock ∨ v'.ownBlock = some (x.v.heap.size + 1)) (hw : Wrote (fun b => v.ownBlock = some b) x.v w') : BlkAt w (k + 1) v' w' := by
  have h0 := lt_of_block h.ops
  have h1 := x.below.size
  have h2 := h.below.size
  refine ⟨⟨_, by rw [List.length_append, hps]; rfl, hown⟩, ?_, ?_, ?_⟩
  · rw [hw.block _ (by omega) h.ne, x.below.block _ h0]
    exact h.ops
  · rcases hat with e | e
    · rw [e]; exact h.ne
    · rw [e]
      intro e'
      simp only [Option.some.injEq] at e'
      omega
  · exact (bthen h.below x.below).trans (hw.below (by omega) fun j hj e => by have := (ho.lt j e).1; omega)
theorem ops9_at {W : World} {h : Nat} (hb : W.heap[h]? = some (.cells ops9 3 (0, 0))) (q : Int) (h0 : 0 ≤ q) (h1 : q < 9) : ∃ o : Int, W.cell? ⟨h, q.toNat, none⟩ = some (.int .i64 o) := by
  have : q = 0 ∨ q = 1 ∨ q = 2 ∨ q = 3 ∨ q = 4 ∨ q = 5 ∨ q = 6 ∨ q = 7 ∨ q = 8 := by omega
  rcases this with rfl | rfl | rfl | rfl | rfl | rfl | rfl | rfl | rfl
  all_goals exact ⟨_, cell_of_blk hb _⟩

/-- What is handed back. -/
def BlocksRet (w : World) (n : Nat) (e : Ending) (w' : World) : Prop := ∃ a c ps, e = .returned (.slice a n c) ∧ InsRow w' a n ps ∧ Below w.heap.size w w'

end Go.Proofs.Ythhgeanmlpmokaa
