/-
  Slices of int64s that a call makes of its own; append to them.
-/
import Derived.Test.YtjfinnjmcnjciaaBmp
import Derived.Test.YtjfinnjmcnjciaaStage
import Derived.Maps.AppendAt
namespace Go.Proofs.Ytjfinnjmcnjciaa
open Go.RowKit
attribute [local go_sem] Later.cell Later.frozen

/-- A slice of ints that the call made, from block B on. -/
def JL (w : World) (B : Nat) (v : Value) (ns : List Int) : Prop := w.ownsRow B 2 1 v ns.length (ns.map fun (n : Int) => Value.int .i64 n)
theorem JL.nil (w : World) (B : Nat) : JL w B (.slice none 0 0) [] := World.ownsRow_nil _ _ _ _
theorem JL.old {w : World} {B : Nat} {v : Value} {ns : List Int} (h : JL w B v ns) {g : Nat} (hg : v.ownBlock = some g) : B ≤ g ∧ g < w.heap.size := World.ownsRow.lt h g hg
theorem JL.kept {S : Nat → Prop} {w w' : World} {B : Nat} {v : Value} {ns : List Int} (h : JL w B v ns) (hw : Wrote S w w') (hs : ∀ k, v.ownBlock = some k → ¬ S k) : JL w' B v ns := by
  refine ⟨h.1, ?_⟩
  rcases h.2 with h' | ⟨g, cap, cur, h1, h2, h3, h4⟩
  · exact .inl h'
  · refine .inr ⟨g, cap, cur, h1, h2, ?_, h4⟩
    rw [hw.block g (lt_of_block h3) (hs g (by simp [h1, Value.ownBlock]))]
    exact h3
theorem JL.mono {w : World} {B B' : Nat} {v : Value} {ns : List Int} (h : JL w B v ns) (hB : B' ≤ B) : JL w B' v ns := by
  refine ⟨h.1, ?_⟩
  rcases h.2 with h' | ⟨g, cap, cur, h1, h2, h3⟩
  · exact .inl h'
  · exact .inr ⟨g, cap, cur, h1, Nat.le_trans hB h2, h3⟩
theorem JL.form {w : World} {B : Nat} {v : Value} {ns : List Int} (h : JL w B v ns) : ∃ a c, v = .slice a ns.length c ∧ (0 < ns.length → ∃ g, a = some ⟨g, 0, none⟩) ∧ ns.length ≤ maxLen ∧ c ≤ maxLen ∧ ns.length ≤ c := by
  rcases h.2 with ⟨h1, h0⟩ | ⟨g, cap, cur, h1, h2, h3, h4, h5, _⟩
  · exact ⟨none, 0, by rw [h1, h0], fun h => by omega, by omega, Nat.zero_le _, by omega⟩
  · exact ⟨some ⟨g, 0, none⟩, cap, h1, fun _ => ⟨g, rfl⟩, Nat.le_trans h4 h5, h5, h4⟩
theorem JL.at {w : World} {B g c n : Nat} {ns : List Int} (h : JL w B (.slice (some ⟨g, 0, none⟩) n c) ns) {k : Nat} (hk : k < ns.length) : w.cell? ⟨g, k, none⟩ = some (.int .i64 (ns.getD k 0)) ∧ w.frozen? ⟨g, k, none⟩ = false := by
  have hn : n = ns.length := by
    rcases h.2 with ⟨h1, h0⟩ | ⟨g', cap, cur, h1, _⟩
    · omega
    · simp only [Value.slice.injEq] at h1; exact h1.2.1
  subst hn
  refine ⟨?_, World.ownsRow.frozenAt h k⟩
  rw [World.ownsRow.cellAt h k (by simpa using hk)]
  simp [hk]
/-- A literal that has just been laid. -/
theorem JL.lit (w : World) (B : Nat) (ns : List Int) (cs : Array Value) (h : cs = (ns.map fun (n : Int) => Value.int .i64 n).toArray) (n : Nat) (hn : n = ns.length) (hB : B ≤ w.heap.size) (hm : ns.length ≤ maxLen) : JL (w.alloc (.cells cs 2)) B (.slice (some ⟨w.heap.size, 0, none⟩) n n) ns := by
  subst h hn
  refine ⟨by simp, .inr ⟨w.heap.size, ns.length, _, rfl, hB, heap_alloc_new _ _, Nat.le_refl _, hm, by simp, by simp [List.take_of_length_le]⟩⟩
theorem infoJ : (Try.prog.info? 2).map (fun i => (i.zero, i.size, i.bytes)) = some (some (.int .i64 0), 1, 8) := by kernel_rfl
/-- append of some ints that stand somewhere, to a list of one's own: one operation. -/
theorem wp_append_jl {o : Oper} {a : Act} {W : World} {K : Act → World → Prop} {Q : Exit → Act → World → Prop} (s x : Operand)
    (ho : o.op = .call { callee := .builtin .append, args := #[s, x], argTypes := #[24, 24] })
    {B : Nat} {v : Value} {ns : List Int} (hs : a.eval s = v) (hown : JL W B v ns) {ad : Addr} {m c : Nat} (ms : List Int) (hx : a.eval x = .slice (some ad) m c)
    (hnews : ∀ j, j < m → W.cell? (ad.add j) = some (.int .i64 (ms.getD j 0))) (hm : ms.length = m) (h6 : ns.length + m ≤ 1000) (hB : B ≤ W.heap.size)
    (h : ∀ v' w', JL w' B v' (ns ++ ms) → Wrote (fun b => v.ownBlock = some b) W w' → (v'.ownBlock = v.ownBlock ∨ v'.ownBlock = some W.heap.size) → (v' = .slice none 0 0 ↔ v = .slice none 0 0 ∧ m = 0) → K (a.put o.dst v') w') : o.wp Try.prog a W K Q := by
  obtain ⟨iI, hi, hz0, hz1, hz2⟩ := info_parts infoJ
  subst hm
  obtain ⟨v', w', hr, h2, h3, h4, h5⟩ := run_append_own_at (P := Try.prog) W B 24 o.type 2 iI (.int .i64 0) 1 8 Try.underlying24 hi hz0 hz1 hz2 rfl (by decide) v ns.length (ns.map fun (n : Int) => Value.int .i64 n) hown ad ms.length c (ms.map fun (n : Int) => Value.int .i64 n) (by simp)
    (fun j u hu => by
      rw [List.getElem?_map, Option.map_eq_some_iff] at hu
      obtain ⟨z, hz, rfl⟩ := hu
      have hj : j < ms.length := (List.getElem?_eq_some_iff.1 hz).1
      rw [hnews j hj]
      simp [hz])
    (fun u hu => by obtain ⟨z, _, rfl⟩ := List.mem_map.1 hu; rfl) (by unfold maxLen; omega) (by omega) hB
  unfold Oper.wp execOp
  simp only [ho, resolve, invoke, builtin, Sem.run_bind, Sem.run_pure, Result.andThen_ok, List.map_toArray, List.map_cons, List.map_nil, hs, hx, hr]
  refine h v' w' ?_ ((Wrote.refl _ W).grown h3 fun j hj _ => hj) h5 h4
  unfold JL
  rw [List.map_append, List.length_append]
  exact h2
theorem wpList_append_jl {ops : Array Oper} {rest : List Oper} {o : Oper} {a : Act} {W : World} {Q : Exit → Act → World → Prop} (hgd : o.guard = none) (s x : Operand)
    (ho : o.op = .call { callee := .builtin .append, args := #[s, x], argTypes := #[24, 24] })
    {B : Nat} {v : Value} {ns : List Int} (hs : a.eval s = v) (hown : JL W B v ns) {ad : Addr} {m c : Nat} (ms : List Int) (hx : a.eval x = .slice (some ad) m c)
    (hnews : ∀ j, j < m → W.cell? (ad.add j) = some (.int .i64 (ms.getD j 0))) (hm : ms.length = m) (h6 : ns.length + m ≤ 1000) (hB : B ≤ W.heap.size)
    (h : ∀ v' w', JL w' B v' (ns ++ ms) → Wrote (fun b => v.ownBlock = some b) W w' → (v'.ownBlock = v.ownBlock ∨ v'.ownBlock = some W.heap.size) → (v' = .slice none 0 0 ↔ v = .slice none 0 0 ∧ m = 0) → wpList Try.prog ops Q rest (a.put o.dst v') w') : wpList Try.prog ops Q (o :: rest) a W := by
  refine wpList_plain hgd fun K hK => ?_
  exact wp_append_jl s x ho hs hown ms hx hnews hm h6 hB fun v' w' h1 h2 h3 h4 => hK _ _ (h v' w' h1 h2 h3 h4)
def tagN (N t : Nat) (f : Nat → Nat) : Nat → Nat := fun j => if N ≤ j then t else f j
theorem tagN_old {N t j : Nat} {f : Nat → Nat} (h : j < N) : tagN N t f j = f j := by unfold tagN; rw [if_neg (by omega)]
theorem tagN_new {N t j : Nat} {f : Nat → Nat} (h : N ≤ j) : tagN N t f j = t := by unfold tagN; rw [if_pos h]

end Go.Proofs.Ytjfinnjmcnjciaa
