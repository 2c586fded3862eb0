/-
  Blocks of layer 4: it answers some program, as long as the list.
-/
import Derived.Test.YtjnpfjalgjecnaaETold
import Derived.Test.YtjnpfjalgjecnaaEIns
import Derived.Test.YtjnpfjalgjecnaaFirst
import Derived.OpenShut
namespace Go.Proofs.Ytjnpfjalgjecnaa
open Go.RowKit
set_option linter.unusedVariables false
attribute [local go_sem] Later.cell Later.frozen

theorem cell_five_new (w : World) (a b c d e : Value) (t : TypeId) : ∀ j u, [a, b, c, d, e][j]? = some u → (w.alloc (.cells #[a, b, c, d, e] t)).cell? ((⟨w.heap.size, 0, none⟩ : Addr).add j) = some u := by
  intro j u hj
  rw [add_at, Nat.zero_add, World.cell?_alloc_at _ _ _ _ rfl]
  simpa using hj
theorem five_one (a b c d e : Int) : ∀ u ∈ [Value.int .i64 a, .int .i64 b, .int .i64 c, .int .i64 d, .int .i64 e], u.oneCell' = true := by
  intro u hu
  simp only [List.mem_cons, List.not_mem_nil, or_false] at hu
  rcases hu with rfl | rfl | rfl | rfl | rfl <;> rfl
theorem insCells_snoc (ps : List Ins) (i : Ins) : insCells (ps ++ [i]) = insCells ps ++ [.int .i64 i.op, .int .i64 i.a, .int .i64 i.b, .int .i64 i.c, .int .i64 i.n] := by simp [insCells]
theorem infoIns : (Try.prog.info? 24).map (fun i => (i.zero, i.size, i.bytes)) = some (some (.agg #[.int .i64 0, .int .i64 0, .int .i64 0, .int .i64 0, .int .i64 0]), 5, 40) := by kernel_rfl

/-- A row of instructions of the call's own reads as a slice of instructions. -/
theorem InsRow.of_own {w : World} {B n : Nat} {E : TypeId} {a : Option Addr} {c : Nat} {ps : List Ins} (h : w.ownsRow B E 5 (.slice a n c) n (insCells ps)) : InsRow w a n ps := by
  have hl : ps.length = n := by have := h.1; rw [insCells_len] at this; omega
  refine ⟨hl, ?_⟩
  rcases h.2 with ⟨h1, h0⟩ | ⟨g, cap, cur, h1, h2, h3, _⟩
  · simp only [Value.slice.injEq] at h1
    exact .inl ⟨h1.1, h0⟩
  · simp only [Value.slice.injEq] at h1
    obtain ⟨rfl, _, rfl⟩ := h1
    refine .inr ⟨g, 0, rfl, lt_of_block h3, fun k i hk => ?_⟩
    have hkn : k < n := by rw [← hl]; exact (List.getElem?_eq_some_iff.1 hk).1
    obtain ⟨g0, g1, g2, g3, g4⟩ := insCells_at ps k i hk
    refine ⟨?_, ?_, ?_, ?_, ?_⟩ <;> rw [Nat.zero_add, h.cellAt _ (by omega)] <;> assumption

theorem wpList_append_ins {P : Program} {ops : Array Oper} {rest : List Oper} {o : Oper} {a : Act} {W : World} {Q : Exit → Act → World → Prop} (hgd : o.guard = none) (s x : Operand) (t : TypeId)
    (ho : o.op = .call { callee := .builtin .append, args := #[s, x], argTypes := #[t, t] })
    {B : Nat} {e : TypeId} {iI : TypeInfo} {z : Value} (ht : P.underlying t = some (.slice e)) (hi : P.info? e = some iI) (hz : iI.zero = some z) (hzs : z.cells.size = 5) (hsize : iI.size = 5) (hby : iI.bytes = 40)
    {v : Value} {n : Nat} {ps : List Ins} (hs : a.eval s = v) (hown : W.ownsRow B e 5 v n (insCells ps)) (p q r u y : Int) (hx : a.eval x = .slice (some ⟨W.heap.size, 0, none⟩) 1 1)
    (h6 : n + 1 ≤ maxLen) (h7 : (n + 1) * 40 ≤ 140737488355328) (hB : B ≤ W.heap.size)
    (h : ∀ v' w', w'.ownsRow B e 5 v' (n + 1) (insCells (ps ++ [⟨p, q, r, u, y⟩])) → (v'.ownBlock = v.ownBlock ∨ v'.ownBlock = some (W.heap.size + 1)) → Wrote (fun b => v.ownBlock = some b) W w' → wpList P ops Q rest (a.put o.dst v') w') :
    wpList P ops Q (o :: rest) a (W.alloc (.cells #[.int .i64 p, .int .i64 q, .int .i64 r, .int .i64 u, .int .i64 y] e)) := by
  refine wpList_append_own_at _ hgd s x t ho B e iI z 5 40 ht hi hz hsize hby hzs (by decide) v n (insCells ps) hs (hown.alloc _) ⟨W.heap.size, 0, none⟩ 1 1 [.int .i64 p, .int .i64 q, .int .i64 r, .int .i64 u, .int .i64 y] hx rfl (cell_five_new _ _ _ _ _ _ _) (five_one _ _ _ _ _) h6 h7 (Nat.le_trans hB (bnew (bid W) _).size) ?_
  intro v' w' hown' hg _ hat
  refine h v' w' (by rw [insCells_snoc]; exact hown') (by rw [size_alloc1] at hat; exact hat) ?_
  exact ((Wrote.refl _ W).alloc _).grown hg fun j hj _ => hj

def ops9 : Array Value := #[.int .i64 18, .int .i64 19, .int .i64 20, .int .i64 21, .int .i64 22, .int .i64 13, .int .i64 14, .int .i64 1, .int .i64 12]
structure BlkAt (w : World) (k : Nat) (v : Value) (wr : World) : Prop where
  row : ∃ ps : List Ins, ps.length = k ∧ wr.ownsRow w.heap.size 24 5 v k (insCells ps)
  ops : wr.heap[w.heap.size]? = some (.cells ops9 3 (0, 0))
  ne : v.ownBlock ≠ some w.heap.size
  below : Below w.heap.size w wr
theorem BlkAt.next {w wr w' : World} {k : Nat} {v v' : Value} {ps : List Ins} {i : Ins} (h : BlkAt w k v wr) (x : Later wr) (hps : ps.length = k) (ho : wr.ownsRow w.heap.size 24 5 v k (insCells ps))
    (hown : w'.ownsRow w.heap.size 24 5 v' (k + 1) (insCells (ps ++ [i]))) (hat : v'.ownBlock = v.ownBlock ∨ v'.ownBlock = some (x.v.heap.size + 1)) (hw : Wrote (fun b => v.ownBlock = some b) x.v w') : BlkAt w (k + 1) v' w' := by
  have h0 := lt_of_block h.ops
  have h1 := x.below.size
  have h2 := h.below.size
  refine ⟨⟨_, by rw [List.length_append, hps]; rfl, hown⟩, ?_, ?_, ?_⟩
  · rw [hw.block _ (by omega) h.ne, x.below.block _ h0]
    exact h.ops
  · rcases hat with e | e
    · rw [e]; exact h.ne
    · rw [e]
      intro e'
      simp only [Option.some.injEq] at e'
      omega
  · exact (bthen h.below x.below).trans (hw.below (by omega) fun j hj e => by have := (ho.lt j e).1; omega)
theorem ops9_at {W : World} {h : Nat} (hb : W.heap[h]? = some (.cells ops9 3 (0, 0))) (q : Int) (h0 : 0 ≤ q) (h1 : q < 9) : ∃ o : Int, W.cell? ⟨h, q.toNat, none⟩ = some (.int .i64 o) := by
  have : q = 0 ∨ q = 1 ∨ q = 2 ∨ q = 3 ∨ q = 4 ∨ q = 5 ∨ q = 6 ∨ q = 7 ∨ q = 8 := by omega
  rcases this with rfl | rfl | rfl | rfl | rfl | rfl | rfl | rfl | rfl
  all_goals exact ⟨_, cell_of_blk hb _⟩

/-- What is handed back. -/
def BlocksRet (w : World) (n : Nat) (e : Ending) (w' : World) : Prop := ∃ a c ps, e = .returned (.slice a n c) ∧ InsRow w' a n ps ∧ Below w.heap.size w w'

set_option maxRecDepth 100000 in
set_option maxHeartbeats 4000000 in
theorem Blocks_any (a : Option Addr) (n c : Nat) (zs : List Int) (w : World) (hr : IntRow w a n zs) (hn : n ≤ 30) :
    Calls Try.prog 15 #[.slice a n c] w (BlocksRet w n) := by
  obtain ⟨iI, hi, hz0, hz1, hz2⟩ := info_parts infoIns
  have HR := hid hr
  clear hr
  have HX : Hid (BlkAt w 0 (.slice none 0 0) (w.alloc (.cells ops9 3))) := hid ⟨⟨[], rfl, World.ownsRow_nil _ _ _ _⟩, heap_alloc_new _ _, by simp [Value.ownBlock], bnew (bid w) _⟩
  go_enter Try.func15, Try.ntmps15
  go_upto_region 3 with fail
  refine wp_rename (fun W => BlkAt w 0 (.slice none 0 0) W) HX.out ?_
  intro W hW
  have HW := hid hW
  clear hW HX
  go_wp2
  go_loopw [3, 5] (fun v i wr => ∃ k : Nat, k ≤ n ∧ i = .int .i64 k ∧ BlkAt w k v wr) (fun _ i _ => n - (intOf i).toNat)
  case atStart => exact ⟨0, Nat.zero_le _, rfl, HW.out⟩
  case round =>
    clear HW
    obtain ⟨k, hk, rfl, hx⟩ := hrel
    have HX := hid hx
    clear hx
    by_cases hlt : k < n
    · obtain ⟨b, off, rfl, hb, hc⟩ := HR.out.at (by omega)
      have hz := hc k hlt
      rw [← World.cell?_of_block (w := w) (w' := wr) (HX.out.below.block b hb)] at hz
      generalize zs.getD k 0 = z at hz
      have hb2 : b < wr.heap.size := Nat.lt_of_lt_of_le hb HX.out.below.size
      have hb3 := lt_of_block HX.out.ops
      have hp := u64_pos z
      obtain ⟨o, ho⟩ := ops9_at HX.out.ops (IntKind.u64.wrap z % 9) (by omega) (by omega)
      have q0 : 0 ≤ IntKind.u64.wrap z % 9 := by omega
      have q1 : IntKind.u64.wrap z % 9 < 9 := by omega
      have i1 : (0 : Int) ≤ (k : Int) := by omega
      have i2 : (k : Int) < (n : Int) := by omega
      have i3 : (k : Int) ≤ 30 := by omega
      obtain ⟨ps, hps, hown⟩ := HX.out.row
      have HO := hid hown
      have HPS := hid hps
      clear hc hown hps hb
      have E6 : Hid (k + 1 ≤ maxLen) := hid (by unfold maxLen; omega)
      have E7 : Hid ((k + 1) * 40 ≤ 140737488355328) := hid (by omega)
      go_wp2_with fail
      refine wp_region_later_first 19 (by kernel_rfl) (by kernel_rfl) (.tmp 3) rfl rfl (fun _ _ _ h => h) ?_
      simp only [List.take_succ_cons, List.take_zero, List.drop_succ_cons, List.drop_zero, Nat.add_one_sub_one, Nat.reduceSub]
      go_frame
      repeat (go_big_quiet_step (fail))
      refine wpQuiet_nil ?_
      rintro _ ⟨x, rfl⟩
      go_wp2_with (at_builtin; go_must (refine wpList_append_ins rfl (.tmp 13) (.tmp 32) 32 rfl Try.underlying32 hi hz0 rfl hz1 hz2 rfl (own_wrote HO.out (Wrote.of_below x.below (fun _ => False)) (fun _ _ h => h)) _ _ _ _ _ rfl E6.out E7.out (Nat.le_trans HX.out.below.size x.below.size) ?_; intro v' w' hown' hat' hb'; have HN := hid (HX.out.next x HPS.out HO.out hown' hat' hb'); clear hown' hat' hb'))
      exact ⟨⟨k + 1, by omega, by go_num, HN.out⟩, by simp [intOf]; omega⟩
    · obtain rfl : k = n := by omega
      obtain ⟨ps, hps, hown⟩ := HX.out.row
      obtain ⟨va, vc, rfl⟩ : ∃ va vc, u3 = .slice va k vc := by
        rcases hown.2 with ⟨e, e2⟩ | ⟨g, cap, cur, e, _⟩
        · exact ⟨_, _, by rw [e, e2]⟩
        · exact ⟨_, _, e⟩
      have HP : Hid (BlocksRet w k (.returned (.slice va k vc)) wr) := hid ⟨va, vc, ps, rfl, .of_own hown, HX.out.below⟩
      clear hps hown
      go_wp2
      go_ret
      exact HP.out

end Go.Proofs.Ytjnpfjalgjecnaa
