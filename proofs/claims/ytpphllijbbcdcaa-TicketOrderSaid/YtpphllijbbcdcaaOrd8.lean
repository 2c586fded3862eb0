/-
  What stands where in TicketOrder: a memory, four hands, three lists of one's own.
-/
import Derived.Test.YtpphllijbbcdcaaOrdP
import Derived.Test.YtpphllijbbcdcaaStage
import Derived.Maps.AppendAt
namespace Go.Proofs.Ytpphllijbbcdcaa
open Go.RowKit
attribute [local go_sem] Later.cell Later.frozen

/-- A slice of ints that the call made, from block B on. -/
def IL (w : World) (B : Nat) (v : Value) (ns : List Nat) : Prop := w.ownsRow B 3 1 v ns.length (ns.map fun (n : Nat) => Value.int .i64 (n : Int))
theorem IL.nil (w : World) (B : Nat) : IL w B (.slice none 0 0) [] := World.ownsRow_nil _ _ _ _
theorem IL.old {w : World} {B : Nat} {v : Value} {ns : List Nat} (h : IL w B v ns) {g : Nat} (hg : v.ownBlock = some g) : B ≤ g ∧ g < w.heap.size := World.ownsRow.lt h g hg
theorem IL.kept {S : Nat → Prop} {w w' : World} {B : Nat} {v : Value} {ns : List Nat} (h : IL w B v ns) (hw : Wrote S w w') (hs : ∀ k, v.ownBlock = some k → ¬ S k) : IL w' B v ns := by
  refine ⟨h.1, ?_⟩
  rcases h.2 with h' | ⟨g, cap, cur, h1, h2, h3, h4⟩
  · exact .inl h'
  · refine .inr ⟨g, cap, cur, h1, h2, ?_, h4⟩
    rw [hw.block g (lt_of_block h3) (hs g (by simp [h1, Value.ownBlock]))]
    exact h3
theorem IL.mono {w : World} {B B' : Nat} {v : Value} {ns : List Nat} (h : IL w B v ns) (hB : B' ≤ B) : IL w B' v ns := by
  refine ⟨h.1, ?_⟩
  rcases h.2 with h' | ⟨g, cap, cur, h1, h2, h3⟩
  · exact .inl h'
  · exact .inr ⟨g, cap, cur, h1, Nat.le_trans hB h2, h3⟩
theorem IL.form {w : World} {B : Nat} {v : Value} {ns : List Nat} (h : IL w B v ns) : ∃ a c, v = .slice a ns.length c ∧ (0 < ns.length → ∃ g, a = some ⟨g, 0, none⟩) ∧ ns.length ≤ maxLen ∧ c ≤ maxLen ∧ ns.length ≤ c := by
  rcases h.2 with ⟨h1, h0⟩ | ⟨g, cap, cur, h1, h2, h3, h4, h5, _⟩
  · exact ⟨none, 0, by rw [h1, h0], fun h => by omega, by omega, Nat.zero_le _, by omega⟩
  · exact ⟨some ⟨g, 0, none⟩, cap, h1, fun _ => ⟨g, rfl⟩, Nat.le_trans h4 h5, h5, h4⟩
theorem IL.at {w : World} {B g c n : Nat} {ns : List Nat} (h : IL w B (.slice (some ⟨g, 0, none⟩) n c) ns) {k : Nat} (hk : k < ns.length) : w.cell? ⟨g, k, none⟩ = some (.int .i64 (ns.getD k 0 : Nat)) ∧ w.frozen? ⟨g, k, none⟩ = false := by
  have hn : n = ns.length := by
    rcases h.2 with ⟨h1, h0⟩ | ⟨g', cap, cur, h1, _⟩
    · omega
    · simp only [Value.slice.injEq] at h1; exact h1.2.1
  subst hn
  refine ⟨?_, World.ownsRow.frozenAt h k⟩
  rw [World.ownsRow.cellAt h k (by simpa using hk)]
  simp [hk]
/-- A literal that has just been laid. -/
theorem IL.lit (w : World) (B : Nat) (ns : List Nat) (cs : Array Value) (h : cs = (ns.map fun (n : Nat) => Value.int .i64 (n : Int)).toArray) (n : Nat) (hn : n = ns.length) (hB : B ≤ w.heap.size) (hm : ns.length ≤ maxLen) : IL (w.alloc (.cells cs 3)) B (.slice (some ⟨w.heap.size, 0, none⟩) n n) ns := by
  subst h hn
  refine ⟨by simp, .inr ⟨w.heap.size, ns.length, _, rfl, hB, heap_alloc_new _ _, Nat.le_refl _, hm, by simp, by simp [List.take_of_length_le]⟩⟩

theorem infoI : (Try.prog.info? 3).map (fun i => (i.zero, i.size, i.bytes)) = some (some (.int .i64 0), 1, 8) := by kernel_rfl

/-- append of some ints that stand somewhere, to a list of one's own: one operation. -/
theorem wp_append_il {o : Oper} {a : Act} {W : World} {K : Act → World → Prop} {Q : Exit → Act → World → Prop} (s x : Operand)
    (ho : o.op = .call { callee := .builtin .append, args := #[s, x], argTypes := #[33, 33] })
    {B : Nat} {v : Value} {ns : List Nat} (hs : a.eval s = v) (hown : IL W B v ns) {ad : Addr} {m c : Nat} (ms : List Nat) (hx : a.eval x = .slice (some ad) m c)
    (hnews : ∀ j, j < m → W.cell? (ad.add j) = some (.int .i64 (ms.getD j 0 : Nat))) (hm : ms.length = m) (h6 : ns.length + m ≤ 1000) (hB : B ≤ W.heap.size)
    (h : ∀ v' w', IL w' B v' (ns ++ ms) → Wrote (fun b => v.ownBlock = some b) W w' → (v'.ownBlock = v.ownBlock ∨ v'.ownBlock = some W.heap.size) → (v' = .slice none 0 0 ↔ v = .slice none 0 0 ∧ m = 0) → K (a.put o.dst v') w') : o.wp Try.prog a W K Q := by
  obtain ⟨iI, hi, hz0, hz1, hz2⟩ := info_parts infoI
  subst hm
  obtain ⟨v', w', hr, h2, h3, h4, h5⟩ := run_append_own_at (P := Try.prog) W B 33 o.type 3 iI (.int .i64 0) 1 8 Try.underlying33 hi hz0 hz1 hz2 rfl (by decide) v ns.length (ns.map fun (n : Nat) => Value.int .i64 (n : Int)) hown ad ms.length c (ms.map fun (n : Nat) => Value.int .i64 (n : Int)) (by simp)
    (fun j u hu => by
      rw [List.getElem?_map, Option.map_eq_some_iff] at hu
      obtain ⟨z, hz, rfl⟩ := hu
      have hj : j < ms.length := (List.getElem?_eq_some_iff.1 hz).1
      rw [hnews j hj]
      simp [hz])
    (fun u hu => by obtain ⟨z, _, rfl⟩ := List.mem_map.1 hu; rfl) (by unfold maxLen; omega) (by omega) hB
  unfold Oper.wp execOp
  simp only [ho, resolve, invoke, builtin, Sem.run_bind, Sem.run_pure, Result.andThen_ok, List.map_toArray, List.map_cons, List.map_nil, hs, hx, hr]
  refine h v' w' ?_ ((Wrote.refl _ W).grown h3 fun j hj _ => hj) h5 h4
  unfold IL
  rw [List.map_append, List.length_append]
  exact h2

theorem wpList_append_il {ops : Array Oper} {rest : List Oper} {o : Oper} {a : Act} {W : World} {Q : Exit → Act → World → Prop} (hgd : o.guard = none) (s x : Operand)
    (ho : o.op = .call { callee := .builtin .append, args := #[s, x], argTypes := #[33, 33] })
    {B : Nat} {v : Value} {ns : List Nat} (hs : a.eval s = v) (hown : IL W B v ns) {ad : Addr} {m c : Nat} (ms : List Nat) (hx : a.eval x = .slice (some ad) m c)
    (hnews : ∀ j, j < m → W.cell? (ad.add j) = some (.int .i64 (ms.getD j 0 : Nat))) (hm : ms.length = m) (h6 : ns.length + m ≤ 1000) (hB : B ≤ W.heap.size)
    (h : ∀ v' w', IL w' B v' (ns ++ ms) → Wrote (fun b => v.ownBlock = some b) W w' → (v'.ownBlock = v.ownBlock ∨ v'.ownBlock = some W.heap.size) → (v' = .slice none 0 0 ↔ v = .slice none 0 0 ∧ m = 0) → wpList Try.prog ops Q rest (a.put o.dst v') w') : wpList Try.prog ops Q (o :: rest) a W := by
  refine wpList_plain hgd fun K hK => ?_
  exact wp_append_il s x ho hs hown ms hx hnews hm h6 hB fun v' w' h1 h2 h3 h4 => hK _ _ (h v' w' h1 h2 h3 h4)
theorem step_append_il {ops : Array Oper} {o : Oper} {a : Act} {W : World} {K : Act → World → Prop} {Q : Exit → Act → World → Prop} {E : Prop} (hgd : o.guard = none) (s x : Operand)
    (ho : o.op = .call { callee := .builtin .append, args := #[s, x], argTypes := #[33, 33] })
    {B : Nat} {v : Value} {ns : List Nat} (hs : a.eval s = v) (hown : IL W B v ns) {ad : Addr} {m c : Nat} (ms : List Nat) (hx : a.eval x = .slice (some ad) m c)
    (hnews : ∀ j, j < m → W.cell? (ad.add j) = some (.int .i64 (ms.getD j 0 : Nat))) (hm : ms.length = m) (h6 : ns.length + m ≤ 1000) (hB : B ≤ W.heap.size)
    (h : ∀ v' w', IL w' B v' (ns ++ ms) → Wrote (fun b => v.ownBlock = some b) W w' → (v'.ownBlock = v.ownBlock ∨ v'.ownBlock = some W.heap.size) → (v' = .slice none 0 0 ↔ v = .slice none 0 0 ∧ m = 0) → K (a.put o.dst v') w') :
    if Region.wanted o (yielded ops a.tmps) = true then Oper.wp Try.prog o a W K Q else E := by
  rw [if_pos (by simp [Region.wanted, hgd])]
  exact wp_append_il s x ho hs hown ms hx hnews hm h6 hB h

def tagN (N t : Nat) (f : Nat → Nat) : Nat → Nat := fun j => if N ≤ j then t else f j
theorem tagN_old {N t j : Nat} {f : Nat → Nat} (h : j < N) : tagN N t f j = f j := by unfold tagN; rw [if_neg (by omega)]
theorem tagN_new {N t j : Nat} {f : Nat → Nat} (h : N ≤ j) : tagN N t f j = t := by unfold tagN; rw [if_pos h]

/-- All that the walk keeps. The tags tell whose each block is. -/
structure OrAt (w : World) (q b : Nat) (vw : Value) (qh : Nat) (s : MS) (hs : Nat → HD) (vf vc vd : Value) (fs cs ds : List Nat) (W : World) : Prop where
  map : MapAt 26 W q mp4
  mem : Mem W w.heap.size b vw s
  hh : FourAt W qh hs
  free : IL W w.heap.size vf fs
  came : IL W w.heap.size vc cs
  had : IL W w.heap.size vd ds
  q0 : w.heap.size ≤ q ∧ w.heap.size ≤ qh
  tag : ∃ f : Nat → Nat, f q = 0 ∧ (∀ k, MemS b vw k → f k = 1) ∧ f qh = 2 ∧ (∀ k, vf.ownBlock = some k → f k = 3) ∧ (∀ k, vc.ownBlock = some k → f k = 4) ∧ (∀ k, vd.ownBlock = some k → f k = 5)
  below : Below w.heap.size w W
section
variable {w : World} {q b : Nat} {vw : Value} {qh : Nat} {s : MS} {hs : Nat → HD} {vf vc vd : Value} {fs cs ds : List Nat} {W W' : World}
theorem OrAt.later (k : OrAt w q b vw qh s hs vf vc vd fs cs ds W) (h : Below W.heap.size W W') : OrAt w q b vw qh s hs vf vc vd fs cs ds W' :=
  ⟨k.map.below h, k.mem.kept (Wrote.of_below h (fun _ => False)) (fun _ _ h => h), k.hh.below h, k.free.kept (Wrote.of_below h (fun _ => False)) (fun _ _ h => h), k.came.kept (Wrote.of_below h (fun _ => False)) (fun _ _ h => h), k.had.kept (Wrote.of_below h (fun _ => False)) (fun _ _ h => h), k.q0, k.tag, bthen k.below h⟩
theorem OrAt.one {s' : MS} (k : OrAt w q b vw qh s hs vf vc vd fs cs ds W) (hm : Mem W' w.heap.size b vw s') (hw : Wrote (MemS b vw) W W') : OrAt w q b vw qh s' hs vf vc vd fs cs ds W' := by
  obtain ⟨f, f0, f1, f2, f3, f4, f5⟩ := k.tag
  exact ⟨(hw.block q k.map.lt fun h => by have := f1 q h; omega).trans k.map, hm, k.hh.kept hw fun h => by have := f1 qh h; omega, k.free.kept hw fun j h1 h2 => by have := f1 j h2; have := f3 j h1; omega, k.came.kept hw fun j h1 h2 => by have := f1 j h2; have := f4 j h1; omega,
    k.had.kept hw fun j h1 h2 => by have := f1 j h2; have := f5 j h1; omega, k.q0, k.tag, k.below.trans (hw.below k.below.size k.mem.old)⟩
theorem OrAt.setH (k : OrAt w q b vw qh s hs vf vc vd fs cs ds W) {i : Nat} (hi : i < 4) (g : HD) :
    OrAt w q b vw qh s (upd hs i g) vf vc vd fs cs ds (((((W.setCell ⟨qh, i * 5, none⟩ (.int .i64 g.t)).setCell ⟨qh, i * 5 + 1, none⟩ (.int .i64 g.l)).setCell ⟨qh, i * 5 + 2, none⟩ (.int .i64 g.s)).setCell ⟨qh, i * 5 + 3, none⟩ (.bool g.rd)).setCell ⟨qh, i * 5 + 4, none⟩ (.int .i64 g.x)) := by
  obtain ⟨f, f0, f1, f2, f3, f4, f5⟩ := k.tag
  have hw := (Wrote.refl (fun j => j = qh) W).setAt5 (q := qh) (o0 := i * 5) (o1 := i * 5 + 1) (o2 := i * 5 + 2) (o3 := i * 5 + 3) (o4 := i * 5 + 4) (fun _ => rfl) (.int .i64 g.t) (.int .i64 g.l) (.int .i64 g.s) (.bool g.rd) (.int .i64 g.x)
  exact ⟨(hw.block q k.map.lt fun e => by rw [e] at f0; omega).trans k.map, k.mem.kept hw fun j h e => by have := f1 j h; rw [e] at this; omega, k.hh.set hi g, k.free.kept hw fun j h e => by have := f3 j h; rw [e] at this; omega, k.came.kept hw fun j h e => by have := f4 j h; rw [e] at this; omega,
    k.had.kept hw fun j h e => by have := f5 j h; rw [e] at this; omega, k.q0, k.tag, k.below.trans (hw.below k.below.size fun j hj e => by have := k.q0.2; omega)⟩
theorem OrAt.lts (k : OrAt w q b vw qh s hs vf vc vd fs cs ds W) : q < W.heap.size ∧ (∀ j, MemS b vw j → j < W.heap.size) ∧ qh < W.heap.size ∧ (∀ j, vf.ownBlock = some j → j < W.heap.size) ∧ (∀ j, vc.ownBlock = some j → j < W.heap.size) ∧ (∀ j, vd.ownBlock = some j → j < W.heap.size) :=
  ⟨k.map.lt, k.mem.hold, k.hh.lt, fun _ h => (k.free.old h).2, fun _ h => (k.came.old h).2, fun _ h => (k.had.old h).2⟩
/-- The free ones are another list now, of a block that is new. -/
theorem OrAt.freeNew {vf' : Value} {fs' : List Nat} (k : OrAt w q b vw qh s hs vf vc vd fs cs ds W) (hb : Below W.heap.size W W') (hf : IL W' W.heap.size vf' fs') : OrAt w q b vw qh s hs vf' vc vd fs' cs ds W' := by
  have k' := k.later hb
  obtain ⟨f, f0, f1, f2, f3, f4, f5⟩ := k.tag
  obtain ⟨l0, l1, l2, l3, l4, l5⟩ := k.lts
  refine ⟨k'.map, k'.mem, k'.hh, hf.mono k.below.size, k'.came, k'.had, k.q0, ⟨tagN W.heap.size 3 f, by rw [tagN_old (by omega)]; exact f0, fun j h => by rw [tagN_old (by have := l1 j h; omega)]; exact f1 j h, by rw [tagN_old (by omega)]; exact f2, fun j h => by rw [tagN_new (hf.old h).1], fun j h => by rw [tagN_old (by have := l4 j h; omega)]; exact f4 j h, fun j h => by rw [tagN_old (by have := l5 j h; omega)]; exact f5 j h⟩, k'.below⟩
theorem OrAt.cameUp {vc' : Value} {cs' : List Nat} {n : Nat} (k : OrAt w q b vw qh s hs vf vc vd fs cs ds W) (hm : IL W' w.heap.size vc' cs') (hw : Wrote (fun j => vc.ownBlock = some j) W W') (ho : vc'.ownBlock = vc.ownBlock ∨ vc'.ownBlock = some n) (hn : W.heap.size ≤ n) : OrAt w q b vw qh s hs vf vc' vd fs cs' ds W' := by
  obtain ⟨f, f0, f1, f2, f3, f4, f5⟩ := k.tag
  obtain ⟨l0, l1, l2, l3, l4, l5⟩ := k.lts
  refine ⟨(hw.block q k.map.lt fun h => by have := f4 q h; omega).trans k.map, k.mem.kept hw fun j h1 h2 => by have := f1 j h1; have := f4 j h2; omega, k.hh.kept hw fun h => by have := f4 qh h; omega, k.free.kept hw fun j h1 h2 => by have := f3 j h1; have := f4 j h2; omega, hm,
    k.had.kept hw fun j h1 h2 => by have := f5 j h1; have := f4 j h2; omega, k.q0, ⟨tagN W.heap.size 4 f, by rw [tagN_old (by omega)]; exact f0, fun j h => by rw [tagN_old (by have := l1 j h; omega)]; exact f1 j h, by rw [tagN_old (by omega)]; exact f2, fun j h => by rw [tagN_old (by have := l3 j h; omega)]; exact f3 j h, fun j h => ?_, fun j h => by rw [tagN_old (by have := l5 j h; omega)]; exact f5 j h⟩,
    k.below.trans (hw.below k.below.size fun j hj h => by have := (k.came.old h).1; omega)⟩
  rcases ho with ho | ho
  · rw [ho] at h; rw [tagN_old (by have := l4 j h; omega)]; exact f4 j h
  · rw [ho] at h; cases h; rw [tagN_new hn]
theorem OrAt.hadUp {vd' : Value} {ds' : List Nat} {n : Nat} (k : OrAt w q b vw qh s hs vf vc vd fs cs ds W) (hm : IL W' w.heap.size vd' ds') (hw : Wrote (fun j => vd.ownBlock = some j) W W') (ho : vd'.ownBlock = vd.ownBlock ∨ vd'.ownBlock = some n) (hn : W.heap.size ≤ n) : OrAt w q b vw qh s hs vf vc vd' fs cs ds' W' := by
  obtain ⟨f, f0, f1, f2, f3, f4, f5⟩ := k.tag
  obtain ⟨l0, l1, l2, l3, l4, l5⟩ := k.lts
  refine ⟨(hw.block q k.map.lt fun h => by have := f5 q h; omega).trans k.map, k.mem.kept hw fun j h1 h2 => by have := f1 j h1; have := f5 j h2; omega, k.hh.kept hw fun h => by have := f5 qh h; omega, k.free.kept hw fun j h1 h2 => by have := f3 j h1; have := f5 j h2; omega,
    k.came.kept hw fun j h1 h2 => by have := f4 j h1; have := f5 j h2; omega, hm, k.q0, ⟨tagN W.heap.size 5 f, by rw [tagN_old (by omega)]; exact f0, fun j h => by rw [tagN_old (by have := l1 j h; omega)]; exact f1 j h, by rw [tagN_old (by omega)]; exact f2, fun j h => by rw [tagN_old (by have := l3 j h; omega)]; exact f3 j h, fun j h => by rw [tagN_old (by have := l4 j h; omega)]; exact f4 j h, fun j h => ?_⟩,
    k.below.trans (hw.below k.below.size fun j hj h => by have := (k.had.old h).1; omega)⟩
  rcases ho with ho | ho
  · rw [ho] at h; rw [tagN_old (by have := l5 j h; omega)]; exact f5 j h
  · rw [ho] at h; cases h; rw [tagN_new hn]
end

end Go.Proofs.Ytpphllijbbcdcaa
