/-
  Slices of ints that a call makes of its own; append to them.
-/
import Derived.Test.YtjfinnjmcnjciaaLater
import Derived.Test.YtjfinnjmcnjciaaStage
import Derived.Maps.AppendAt
namespace Go.Proofs.Ytjfinnjmcnjciaa
open Go.RowKit
attribute [local go_sem] Later.cell Later.frozen

/-- A slice of ints that the call made, from block B on. -/
def NL (w : World) (B : Nat) (v : Value) (ns : List Int) : Prop := w.ownsRow B 3 1 v ns.length (ns.map fun (n : Int) => Value.int .i64 n)
theorem NL.nil (w : World) (B : Nat) : NL w B (.slice none 0 0) [] := World.ownsRow_nil _ _ _ _
theorem NL.old {w : World} {B : Nat} {v : Value} {ns : List Int} (h : NL w B v ns) {g : Nat} (hg : v.ownBlock = some g) : B ≤ g ∧ g < w.heap.size := World.ownsRow.lt h g hg
theorem NL.kept {S : Nat → Prop} {w w' : World} {B : Nat} {v : Value} {ns : List Int} (h : NL w B v ns) (hw : Wrote S w w') (hs : ∀ k, v.ownBlock = some k → ¬ S k) : NL w' B v ns := by
  refine ⟨h.1, ?_⟩
  rcases h.2 with h' | ⟨g, cap, cur, h1, h2, h3, h4⟩
  · exact .inl h'
  · refine .inr ⟨g, cap, cur, h1, h2, ?_, h4⟩
    rw [hw.block g (lt_of_block h3) (hs g (by simp [h1, Value.ownBlock]))]
    exact h3
theorem NL.mono {w : World} {B B' : Nat} {v : Value} {ns : List Int} (h : NL w B v ns) (hB : B' ≤ B) : NL w B' v ns := by
  refine ⟨h.1, ?_⟩
  rcases h.2 with h' | ⟨g, cap, cur, h1, h2, h3⟩
  · exact .inl h'
  · exact .inr ⟨g, cap, cur, h1, Nat.le_trans hB h2, h3⟩
theorem NL.form {w : World} {B : Nat} {v : Value} {ns : List Int} (h : NL w B v ns) : ∃ a c, v = .slice a ns.length c ∧ (0 < ns.length → ∃ g, a = some ⟨g, 0, none⟩) ∧ ns.length ≤ maxLen ∧ c ≤ maxLen ∧ ns.length ≤ c := by
  rcases h.2 with ⟨h1, h0⟩ | ⟨g, cap, cur, h1, h2, h3, h4, h5, _⟩
  · exact ⟨none, 0, by rw [h1, h0], fun h => by omega, by omega, Nat.zero_le _, by omega⟩
  · exact ⟨some ⟨g, 0, none⟩, cap, h1, fun _ => ⟨g, rfl⟩, Nat.le_trans h4 h5, h5, h4⟩
theorem NL.at {w : World} {B g c n : Nat} {ns : List Int} (h : NL w B (.slice (some ⟨g, 0, none⟩) n c) ns) {k : Nat} (hk : k < ns.length) : w.cell? ⟨g, k, none⟩ = some (.int .i64 (ns.getD k 0)) ∧ w.frozen? ⟨g, k, none⟩ = false := by
  have hn : n = ns.length := by
    rcases h.2 with ⟨h1, h0⟩ | ⟨g', cap, cur, h1, _⟩
    · omega
    · simp only [Value.slice.injEq] at h1; exact h1.2.1
  subst hn
  refine ⟨?_, World.ownsRow.frozenAt h k⟩
  rw [World.ownsRow.cellAt h k (by simpa using hk)]
  simp [hk]
/-- A literal that has just been laid. -/
theorem NL.lit (w : World) (B : Nat) (ns : List Int) (cs : Array Value) (h : cs = (ns.map fun (n : Int) => Value.int .i64 n).toArray) (n : Nat) (hn : n = ns.length) (hB : B ≤ w.heap.size) (hm : ns.length ≤ maxLen) : NL (w.alloc (.cells cs 3)) B (.slice (some ⟨w.heap.size, 0, none⟩) n n) ns := by
  subst h hn
  refine ⟨by simp, .inr ⟨w.heap.size, ns.length, _, rfl, hB, heap_alloc_new _ _, Nat.le_refl _, hm, by simp, by simp [List.take_of_length_le]⟩⟩
theorem infoN : (Try.prog.info? 3).map (fun i => (i.zero, i.size, i.bytes)) = some (some (.int .i64 0), 1, 8) := by kernel_rfl
/-- append of some ints that stand somewhere, to a list of one's own: one operation. -/
theorem wp_append_nl {o : Oper} {a : Act} {W : World} {K : Act → World → Prop} {Q : Exit → Act → World → Prop} (s x : Operand)
    (ho : o.op = .call { callee := .builtin .append, args := #[s, x], argTypes := #[22, 22] })
    {B : Nat} {v : Value} {ns : List Int} (hs : a.eval s = v) (hown : NL W B v ns) {ad : Addr} {m c : Nat} (ms : List Int) (hx : a.eval x = .slice (some ad) m c)
    (hnews : ∀ j, j < m → W.cell? (ad.add j) = some (.int .i64 (ms.getD j 0))) (hm : ms.length = m) (h6 : ns.length + m ≤ 1000) (hB : B ≤ W.heap.size)
    (h : ∀ v' w', NL w' B v' (ns ++ ms) → Wrote (fun b => v.ownBlock = some b) W w' → (v'.ownBlock = v.ownBlock ∨ v'.ownBlock = some W.heap.size) → (v' = .slice none 0 0 ↔ v = .slice none 0 0 ∧ m = 0) → K (a.put o.dst v') w') : o.wp Try.prog a W K Q := by
  obtain ⟨iI, hi, hz0, hz1, hz2⟩ := info_parts infoN
  subst hm
  obtain ⟨v', w', hr, h2, h3, h4, h5⟩ := run_append_own_at (P := Try.prog) W B 22 o.type 3 iI (.int .i64 0) 1 8 Try.underlying22 hi hz0 hz1 hz2 rfl (by decide) v ns.length (ns.map fun (n : Int) => Value.int .i64 n) hown ad ms.length c (ms.map fun (n : Int) => Value.int .i64 n) (by simp)
    (fun j u hu => by
      rw [List.getElem?_map, Option.map_eq_some_iff] at hu
      obtain ⟨z, hz, rfl⟩ := hu
      have hj : j < ms.length := (List.getElem?_eq_some_iff.1 hz).1
      rw [hnews j hj]
      simp [hz])
    (fun u hu => by obtain ⟨z, _, rfl⟩ := List.mem_map.1 hu; rfl) (by unfold maxLen; omega) (by omega) hB
  unfold Oper.wp execOp
  simp only [ho, resolve, invoke, builtin, Sem.run_bind, Sem.run_pure, Result.andThen_ok, List.map_toArray, List.map_cons, List.map_nil, hs, hx, hr]
  refine h v' w' ?_ ((Wrote.refl _ W).grown h3 fun j hj _ => hj) h5 h4
  unfold NL
  rw [List.map_append, List.length_append]
  exact h2
theorem wpList_append_nl {ops : Array Oper} {rest : List Oper} {o : Oper} {a : Act} {W : World} {Q : Exit → Act → World → Prop} (hgd : o.guard = none) (s x : Operand)
    (ho : o.op = .call { callee := .builtin .append, args := #[s, x], argTypes := #[22, 22] })
    {B : Nat} {v : Value} {ns : List Int} (hs : a.eval s = v) (hown : NL W B v ns) {ad : Addr} {m c : Nat} (ms : List Int) (hx : a.eval x = .slice (some ad) m c)
    (hnews : ∀ j, j < m → W.cell? (ad.add j) = some (.int .i64 (ms.getD j 0))) (hm : ms.length = m) (h6 : ns.length + m ≤ 1000) (hB : B ≤ W.heap.size)
    (h : ∀ v' w', NL w' B v' (ns ++ ms) → Wrote (fun b => v.ownBlock = some b) W w' → (v'.ownBlock = v.ownBlock ∨ v'.ownBlock = some W.heap.size) → (v' = .slice none 0 0 ↔ v = .slice none 0 0 ∧ m = 0) → wpList Try.prog ops Q rest (a.put o.dst v') w') : wpList Try.prog ops Q (o :: rest) a W := by
  refine wpList_plain hgd fun K hK => ?_
  exact wp_append_nl s x ho hs hown ms hx hnews hm h6 hB fun v' w' h1 h2 h3 h4 => hK _ _ (h v' w' h1 h2 h3 h4)
theorem NL.below {w w' : World} {B : Nat} {v : Value} {ns : List Int} (h : NL w B v ns) (hb : Below w.heap.size w w') : NL w' B v ns :=
  h.kept (Wrote.of_below hb (fun _ => False)) (fun _ _ h => h)
/-- append of one int. -/
theorem wpList_append_nl1 {ops : Array Oper} {rest : List Oper} {o : Oper} {a : Act} {W0 : World} {Q : Exit → Act → World → Prop} (hgd : o.guard = none) (s x : Operand)
    (ho : o.op = .call { callee := .builtin .append, args := #[s, x], argTypes := #[22, 22] })
    {B : Nat} {v : Value} {ns : List Int} (hs : a.eval s = v) (hown : NL W0 B v ns) {H : Nat} (hH : W0.heap.size = H) {n : Int} (hx : a.eval x = .slice (some ⟨H, 0, none⟩) 1 1)
    (h6 : ns.length + 1 ≤ 1000) (hB : B ≤ W0.heap.size)
    (h : ∀ v' w', NL w' B v' (ns ++ [n]) → Below B W0 w' → wpList Try.prog ops Q rest (a.put o.dst v') w') : wpList Try.prog ops Q (o :: rest) a (W0.alloc (.cells #[.int .i64 n] 3)) := by
  subst hH
  have hb := bnew (bid W0) (.cells #[.int .i64 n] 3)
  have hsz : (W0.alloc (.cells #[.int .i64 n] 3)).heap.size = W0.heap.size + 1 := size_alloc1 _ _
  refine wpList_append_nl hgd s x ho hs (hown.below hb) (ms := [n]) hx (fun j hj => ?_) rfl h6 (by omega) (fun v' w' h1 h2 _ _ => h v' w' h1 ?_)
  · obtain rfl : j = 0 := by omega
    rw [add_zero]
    exact cell_of_blk (heap_alloc_new _ _) 0
  · exact (hb.mono hB).trans ⟨h2.os, h2.tape, h2.output, by have := h2.size; omega, fun k hk => h2.block k (by omega) (fun hq => by have := hown.old hq; omega)⟩
/-- append of what is nil, whatever it tells of its room. -/
theorem run_append_nil0 {P : Program} {w : World} (base : Nat) (t ty e : TypeId) (i : TypeInfo) (size cc : Nat) (ht : P.underlying t = some (.slice e)) (hi : P.info? e = some i)
    (v : Value) (n : Nat) (xs : List Value) (hown : w.ownsRow base e size v n xs) :
    (Builtin.append_ #[t, t] ty #[v, .slice none 0 cc]).run P w = .ok v w := by
  rcases hown.2 with ⟨rfl, rfl⟩ | ⟨g, cap, cur, rfl, _, _, hnc, _⟩
  · simp [Builtin.append_, run_underlying ht, sizeOf, typeInfo, hi, Builtin.lenOf, Builtin.firstCells]
  · simp [Builtin.append_, run_underlying ht, sizeOf, typeInfo, hi, Builtin.lenOf, Builtin.firstCells, hnc, storeCells]
/-- append of a row, nil or not. -/
theorem wpList_append_nlr {ops : Array Oper} {rest : List Oper} {o : Oper} {a : Act} {W : World} {Q : Exit → Act → World → Prop} (hgd : o.guard = none) (s x : Operand)
    (ho : o.op = .call { callee := .builtin .append, args := #[s, x], argTypes := #[22, 22] })
    {B : Nat} {v : Value} {ns : List Int} (hs : a.eval s = v) (hown : NL W B v ns) {ad : Option Addr} {m c : Nat} (ms : List Int) (hx : a.eval x = .slice ad m c) (hrow : IntRow W ad m ms)
    (h6 : ns.length + m ≤ 1000) (hB : B ≤ W.heap.size)
    (h : ∀ v' w', NL w' B v' (ns ++ ms) → Below B W w' → wpList Try.prog ops Q rest (a.put o.dst v') w') : wpList Try.prog ops Q (o :: rest) a W := by
  obtain ⟨hlen, ⟨rfl, h0⟩ | ⟨b, rfl, hc⟩⟩ := hrow
  · subst h0
    obtain rfl : ms = [] := List.eq_nil_of_length_eq_zero hlen
    refine wpList_plain hgd fun K hK => ?_
    obtain ⟨iI, hi, hz0, hz1, hz2⟩ := info_parts infoN
    have hrun := run_append_nil0 (P := Try.prog) (w := W) B 22 o.type 3 iI 1 c Try.underlying22 hi v ns.length _ hown
    unfold Oper.wp
    simp [execOp, ho, resolve, invoke, builtin, hs, hx, hrun, Result.andThen]
    exact hK _ _ (h v W (by rw [List.append_nil]; exact hown) (Below.refl _ _))
  · refine wpList_append_nl hgd s x ho hs hown ms hx hc hlen h6 hB fun v' w' h1 h2 _ _ => h v' w' h1 ?_
    exact ⟨h2.os, h2.tape, h2.output, h2.size, fun k hk => h2.block k (by omega) (fun hq => by have := hown.old hq; omega)⟩
theorem NL.row {w : World} {B : Nat} {v : Value} {ns : List Int} (h : NL w B v ns) : ∃ a c, v = .slice a ns.length c ∧ IntRow w a ns.length ns ∧ (0 < ns.length → ∃ g, a = some ⟨g, 0, none⟩ ∧ B ≤ g ∧ g < w.heap.size) := by
  obtain ⟨a, c, rfl, hg, _⟩ := h.form
  refine ⟨a, c, rfl, ?_, fun hn => ?_⟩
  · by_cases hn : 0 < ns.length
    · obtain ⟨g, rfl⟩ := hg hn
      refine ⟨rfl, .inr ⟨_, rfl, fun j hj => ?_⟩⟩
      rw [add_at, Nat.zero_add]
      exact (h.at hj).1
    · refine ⟨rfl, ?_⟩
      cases a with
      | none => exact .inl ⟨rfl, by omega⟩
      | some x => exact .inr ⟨x, rfl, fun j hj => by omega⟩
  · obtain ⟨g, rfl⟩ := hg hn
    exact ⟨g, rfl, h.old rfl⟩
theorem NL.store {w : World} {B g n c : Nat} {ns : List Int} (h : NL w B (.slice (some ⟨g, 0, none⟩) n c) ns) (i : Nat) (v : Int) : NL (w.setCell ⟨g, i, none⟩ (.int .i64 v)) B (.slice (some ⟨g, 0, none⟩) n c) (ns.set i v) := by
  obtain ⟨a, c', e, _⟩ := h.form
  simp only [Value.slice.injEq] at e
  obtain ⟨_, rfl, _⟩ := e
  unfold NL at h
  have := (World.ownsRow.stored h i (.int .i64 v)).1
  unfold NL
  rw [List.length_set, List.map_set]
  exact this
end Go.Proofs.Ytjfinnjmcnjciaa
