/-
  The program's attempt: it takes a stripe; it makes a stamp. The program's attempt: it makes a stamp. The program's attempt: each access. The program's attempt: the accesses that look into its lists; any access.
-/
import Derived.Test.YtjfinnjmcnjciaaTpI
import Derived.Test.YtjfinnjmcnjciaaStageN
namespace Go.Proofs.Ytjfinnjmcnjciaa
open Go.RowKit
attribute [local go_sem] Later.cell Later.frozen

/-- What an access comes to. -/
def AcRet (w : World) (ρ : Nat → Nat) (r b B mb : Nat) (vw : Value) (v : Int × PT × MS) (e : Ending) (w' : World) : Prop :=
  e = .returned (.int .i64 v.1) ∧ ∃ ρ' l', Gr ρ ρ' w ∧ PXM w' ρ' r b v.2.1 l' B mb vw v.2.2 ∧ Wrote (OwnM ρ r mb vw) w w'
variable {w w' : World} {ρ : Nat → Nat} {r b : Nat} {x : PT} {l : PL} {B mb : Nat} {vw : Value} {s s' : MS}
theorem PXM.upd (h : PXM w ρ r b x l B mb vw s) {x' : PT} {l' : PL} (hb : w'.heap[b]? = some (.cells (ptC x' l') 121 (0, 0))) (hw : Wrote (fun k => k = b) w w') (hx : x'.core = x.core) (hl : l'.core = l.core) (hp : x'.parts = x.parts) (hpl : l'.pa = l.pa ∧ l'.pc = l.pc) : PXM w' ρ r b x' l' B mb vw s :=
  h.turn (h.px.upd hb hw hx hl hp hpl) (Gr.refl _ _) (h.px.wr1 hw)
theorem OwnM.mem {w : World} {ρ : Nat → Nat} {r mb : Nat} {vw : Value} {w' : World} (hw : Wrote (MemS mb vw) w w') : Wrote (OwnM ρ r mb vw) w w' := hw.mono fun _ _ h => .inr h
theorem OwnM.own {w : World} {ρ : Nat → Nat} {r mb : Nat} {vw : Value} {w' : World} (hw : Wrote (Own ρ r) w w') : Wrote (OwnM ρ r mb vw) w w' := hw.mono fun _ _ h => .inl h
theorem AcRet.from {ρ1 : Nat → Nat} {w1 : World} {v : Int × PT × MS} {e : Ending} (h : AcRet w1 ρ1 r b B mb vw v e w') (hg : Gr ρ ρ1 w) (hw : Wrote (OwnM ρ r mb vw) w w1) : AcRet w ρ r b B mb vw v e w' := by
  obtain ⟨h1, ρ', l', g, p, k⟩ := h
  exact ⟨h1, ρ', l', hg.trans g hw.size, p, hw.then k fun i hi ho => by unfold OwnM Own at ho ⊢; rw [hg i hi] at ho; exact ho⟩

def takeP (s : MS) (x : PT) (row : Int) (seen : Bool) : Int × PT × MS :=
  if seen = true then
    if s.okAt (x.stripeP row) x.saw = true then (0, { x with old := x.old ++ [x.saw] }, s.swapped (x.stripeP row) x.saw (takeF x.saw x.th))
    else (1, x, s.swapped (x.stripeP row) x.saw (takeF x.saw x.th))
  else (if holF (s.vAt (x.stripeP row)) ≠ -1 then 1 else 0, { x with saw := s.vAt (x.stripeP row) }, s.loaded (x.stripeP row))

set_option maxHeartbeats 1000000 in
theorem take_look (row : Int) (h : PXM w ρ r b x l B mb vw s) : Calls Try.prog 124 #[.pointer (some ⟨b, 0, none⟩), .pointer (some ⟨mb, 0, none⟩), .int .i64 row, .bool false] w (AcRet w ρ r b B mb vw (takeP s x row false)) := by
  have HL := hid (look_any' row h)
  have H := hid h
  have HE := hid (show takeP s x row false = (if holF (s.vAt (x.stripeP row)) ≠ -1 then 1 else 0, { x with saw := s.vAt (x.stripeP row) }, s.loaded (x.stripeP row)) from if_neg Bool.false_ne_true)
  have HH := hid (fun W => Holder_any (s.vAt (x.stripeP row)) W)
  clear h
  generalize s.vAt (x.stripeP row) = v at *
  by_cases hv : holF v = -1
  · have hvb : (holF v != -1) = false := by simpa using hv
    rw [if_neg (fun h => h hv)] at HE
    generalize holF v = hv' at *
    go_enter Try.func124, Try.ntmps124
    go_wp2_with (first | (go_at_call 120; go_must ((with_reducible refine HL.out.mono ?_); rintro e w2 ⟨rfl, hm, hw⟩; have HX := hid (H.out.memd hm hw); have HW := hid hw; clear hm hw; have c21 := HX.out.px.facts.2.2.2.2.1.2.2.1; have f21 := HX.out.px.facts.2.2.2.2.2.2 21)) | (go_at_call 142; go_must ((with_reducible refine (HH.out _).mono ?_); rintro e w3 ⟨rfl, rfl⟩)))
    go_ret
    have hw := (Wrote.refl (fun k => k = b) w2).setCell (p := ⟨b, 21, none⟩) (fun _ => rfl) (.int .i64 v)
    rw [HE.out]
    exact ⟨rfl, ρ, l, Gr.refl _ _, HX.out.upd (x' := { x with saw := v }) (l' := l) (blk_setCell HX.out.px.blk 21 _) hw rfl rfl rfl ⟨rfl, rfl⟩, (OwnM.mem HW.out).trans (OwnM.own (HX.out.px.wr1 hw))⟩
  · have hvb : (holF v != -1) = true := by simpa using hv
    rw [if_pos hv] at HE
    generalize holF v = hv' at *
    go_enter Try.func124, Try.ntmps124
    go_wp2_with (first | (go_at_call 120; go_must ((with_reducible refine HL.out.mono ?_); rintro e w2 ⟨rfl, hm, hw⟩; have HX := hid (H.out.memd hm hw); have HW := hid hw; clear hm hw; have c21 := HX.out.px.facts.2.2.2.2.1.2.2.1; have f21 := HX.out.px.facts.2.2.2.2.2.2 21)) | (go_at_call 142; go_must ((with_reducible refine (HH.out _).mono ?_); rintro e w3 ⟨rfl, rfl⟩)))
    go_ret
    have hw := (Wrote.refl (fun k => k = b) w2).setCell (p := ⟨b, 21, none⟩) (fun _ => rfl) (.int .i64 v)
    rw [HE.out]
    exact ⟨rfl, ρ, l, Gr.refl _ _, HX.out.upd (x' := { x with saw := v }) (l' := l) (blk_setCell HX.out.px.blk 21 _) hw rfl rfl rfl ⟨rfl, rfl⟩, (OwnM.mem HW.out).trans (OwnM.own (HX.out.px.wr1 hw))⟩

/-- One more stripe is taken. -/
theorem PX.tookOne (h : PX w ρ r b x l) (h16 : x.old.length < 16) {w1 w2 : World} {v : Value} {z : Int} (hb : Below w.heap.size w w1) (hv : JL w2 0 v (x.old ++ [z])) (hw : Wrote (fun k => l.vo.ownBlock = some k) w1 w2) (ho : ∀ g, v.ownBlock = some g → l.vo.ownBlock = some g ∨ w1.heap.size ≤ g) :
    ∃ ρ', Gr ρ ρ' w ∧ PX (w2.setCell ⟨b, 25, none⟩ v) ρ' r b { x with old := x.old ++ [z] } { l with vo := v } ∧ Wrote (Own ρ r) w (w2.setCell ⟨b, 25, none⟩ v) := by
  have h1 : PX w1 ρ r b x l := h.below hb
  have hg := newR_gr ρ w1 (r + 6)
  have h2 : PX w1 (newR ρ w1.heap.size (r + 6)) r b x l := h1.gr hg
  have hw3 := (Wrote.refl (fun k => k = b) w2).setCell (p := ⟨b, 25, none⟩) (fun _ => rfl) v
  have hb1 := h2.ins.b1
  have i := (h2.ins.kept (S := fun k => l.vo.ownBlock = some k ∧ False) (w' := w1) (Wrote.refl _ _) (fun _ _ _ h => h.2))
  have ne : ∀ k, l.vo.ownBlock = some k → newR ρ w1.heap.size (r + 6) k = r + 6 := h2.ins.b6
  have hblk2 : w2.heap[b]? = some (.cells (ptC x l) 121 (0, 0)) := (hw.block _ h2.lt (fun e => by have := ne _ e; omega)).trans h2.blk
  have hwv : JL (w2.setCell ⟨b, 25, none⟩ v) 0 v (x.old ++ [z]) := hv.kept hw3 fun k hk e => by
    subst e
    rcases ho _ hk with hk | hk
    · have := ne _ hk; omega
    · have := h2.lt; omega
  have W12 : Wrote (fun k => l.vo.ownBlock = some k ∨ k = b) w1 (w2.setCell ⟨b, 25, none⟩ v) := (hw.mono fun k _ e => .inl e).trans (hw3.mono fun k _ e => .inr e)
  refine ⟨newR ρ w1.heap.size (r + 6), fun k hk => hg k (Nat.lt_of_lt_of_le hk hb.size), ⟨blk_setCell hblk2 25 v, ⟨?_, ?_, ?_, ?_, hwv, i.b1, i.b2, i.b3, i.b4, i.b5, ?_, i.wtl, by show (x.old ++ [z]).length ≤ 16; rw [List.length_append, List.length_singleton]; omega, i.rowl⟩, ?_⟩, ?_⟩
  · exact i.rd.keep (W12.block _ i.rd.lt (fun e => by have h2 := i.b2; rcases e with e | e; · have := ne _ e; omega
                                                      · rw [e] at h2; omega))
  · exact i.wr.keep (W12.block _ i.wr.lt (fun e => by have h2 := i.b3; rcases e with e | e; · have := ne _ e; omega
                                                      · rw [e] at h2; omega))
  · exact i.wt.kept W12 fun k hk e => by have h2 := i.b4 k hk; rcases e with e | e; · have := ne _ e; omega
                                         · subst e; omega
  · exact i.rows.kept W12 fun k hk e => by have h2 := i.b5 k hk; rcases e with e | e; · have := ne _ e; omega
                                           · subst e; omega
  · intro k hk
    rcases ho k hk with hk | hk
    · exact ne _ hk
    · exact newR_new hk
  · exact (h2.parts.kept W12 fun k hk e => by rcases e with e | e; · have := ne _ e; omega
                                              · subst e; omega).same rfl rfl rfl
  · refine (Wrote.of_below hb _).trans (W12.mono fun k hk e => ?_)
    rcases e with e | e
    · have := h1.ins.b6 k e
      exact ⟨by omega, by omega⟩
    · subst e; exact h.own

/-- Cells that a swap reads of its own. -/
def TkCells (b : Nat) (saw th : Int) (W : World) : Prop := W.cell? ⟨b, 21, none⟩ = some (.int .i64 saw) ∧ W.frozen? ⟨b, 21, none⟩ = false ∧ W.cell? ⟨b, 5, none⟩ = some (.int .i64 th) ∧ W.frozen? ⟨b, 5, none⟩ = false
theorem TkCells.of (h : PX w ρ r b x l) : TkCells b x.saw x.th w := ⟨h.facts.2.2.2.2.1.2.2.1, h.facts.2.2.2.2.2.2 21, h.facts.2.1.1, h.facts.2.2.2.2.2.2 5⟩
def TkD (w : World) (ρ : Nat → Nat) (r b : Nat) (x : PT) (l : PL) (B mb : Nat) (vw : Value) (s s' : MS) (L : Nat → Bool) (W : World) : Prop := PXM W ρ r b x l B mb vw (bif L 17 then s' else s) ∧ Wrote (MemS mb vw) w W
variable {L : Nat → Bool} {W W' : World}
theorem TkD.start (hL : ∀ j, L j = false) (h : PXM w ρ r b x l B mb vw s) : TkD w ρ r b x l B mb vw s s' L w.drew := by
  unfold TkD
  rw [hL 17]
  exact ⟨h.below (bdrew (bid _)), (Wrote.refl _ _).drew⟩
theorem TkD.below (h : TkD w ρ r b x l B mb vw s s' L W) (hb : Below W.heap.size W W') : TkD w ρ r b x l B mb vw s s' L W' := ⟨h.1.below hb, h.2.trans (Wrote.of_below hb _)⟩
theorem TkD.at17 (h : TkD w ρ r b x l B mb vw s s' L W) (hL : L 17 = false) : PXM W ρ r b x l B mb vw s ∧ Wrote (MemS mb vw) w W := by
  unfold TkD at h; rw [hL] at h; exact h
theorem TkD.end_ (hL : L 17 = true) (h : TkD w ρ r b x l B mb vw s s' L W) : PXM W ρ r b x l B mb vw s' ∧ Wrote (MemS mb vw) w W := by
  unfold TkD at h; rw [hL] at h; exact h
theorem TkD.swap (h : PXM W ρ r b x l B mb vw s ∧ Wrote (MemS mb vw) w W) (hm : Mem W' B mb vw s') (hw : Wrote (MemS mb vw) W W') : TkD w ρ r b x l B mb vw s s' (bump L 17) W' := by
  unfold TkD; rw [bump_at]; exact ⟨h.1.memd hm hw, h.2.trans hw⟩

/-- An append of one number, run. -/
theorem append_jl_run {W : World} {v : Value} {ns : List Int} (ty : TypeId) (hown : JL W 0 v ns) (z : Int) (h6 : ns.length ≤ 900) :
    ∃ v' w', (Builtin.append_ #[24, 24] ty #[v, .slice (some ⟨W.heap.size, 0, none⟩) 1 1]).run Try.prog (W.alloc (.cells #[.int .i64 z] 2)) = .ok v' w' ∧ JL w' 0 v' (ns ++ [z]) ∧ Wrote (fun b => v.ownBlock = some b) W w' ∧ ∀ g, v'.ownBlock = some g → v.ownBlock = some g ∨ W.heap.size ≤ g := by
  obtain ⟨iI, hi, hz0, hz1, hz2⟩ := info_parts infoJ
  have hb := bnew (bid W) (.cells #[.int .i64 z] 2)
  have hown2 : JL (W.alloc (.cells #[.int .i64 z] 2)) 0 v ns := hown.kept (Wrote.of_below hb (fun _ => False)) (fun _ _ h => h)
  obtain ⟨v', w', hr, h2, h3, h4, h5⟩ := run_append_own_at (P := Try.prog) (W.alloc (.cells #[.int .i64 z] 2)) 0 24 ty 2 iI (.int .i64 0) 1 8 Try.underlying24 hi hz0 hz1 hz2 rfl (by decide) v ns.length (ns.map fun (n : Int) => Value.int .i64 n) hown2 ⟨W.heap.size, 0, none⟩ 1 1 [.int .i64 z] (by simp)
    (fun j u hu => by
      match j, hu with
      | 0, hu => simp at hu; subst hu; exact cell_of_blk (heap_alloc_new _ _) 0)
    (fun u hu => by simp at hu; subst hu; rfl) (by unfold maxLen; omega) (by omega) (Nat.zero_le _)
  refine ⟨v', w', hr, ?_, (Wrote.of_below hb _).trans ((Wrote.refl _ _).grown h3 fun j hj _ => hj), fun g hg => ?_⟩
  · unfold JL
    rw [List.map_append, List.length_append]
    exact h2
  · rcases h5 with h5 | h5
    · exact .inl (by rw [← h5]; exact hg)
    · rw [h5] at hg
      simp only [Option.some.injEq] at hg
      have := size_alloc1 W (.cells #[.int .i64 z] 2)
      exact .inr (by omega)
theorem append_exec {o : Oper} {a : Act} {W w' : World} {v u v' : Value} (s x : Operand) (ho : o.op = .call { callee := .builtin .append, args := #[s, x], argTypes := #[24, 24] }) (hs : a.eval s = v) (hx : a.eval x = u)
    (hr : (Builtin.append_ #[24, 24] o.type #[v, u]).run Try.prog W = .ok v' w') : (execOp a.eval o).run Try.prog W = .ok (.value v') w' := by
  unfold execOp
  simp only [ho, resolve, invoke, builtin, Sem.run_bind, Sem.run_pure, Result.andThen_ok, List.map_toArray, List.map_cons, List.map_nil, hs, hx, hr]
theorem gUpon_append {o : Oper} {a : Act} {C : World → Prop} {W w' : World} {v u v' : Value} (s x : Operand) (ho : o.op = .call { callee := .builtin .append, args := #[s, x], argTypes := #[24, 24] }) (hs : a.eval s = v) (hx : a.eval x = u)
    (hr : (Builtin.append_ #[24, 24] o.type #[v, u]).run Try.prog W = .ok v' w') (hc : C w') : gUpon Try.prog C W v' ((execOp a.eval o).run Try.prog W) := by
  rw [append_exec s x ho hs hx hr]; exact ⟨rfl, hc⟩
/-- The worlds of the append: exactly these. -/
def ApW (w1 w2 w3 w4 : World) (L : Nat → Bool) (W : World) : Prop := W = bif L 13 then w4 else bif L 10 then w3 else bif L 9 then w2 else w1
def ApCells (b : Nat) (vo : Value) (saw : Int) (W : World) : Prop := W.cell? ⟨b, 25, none⟩ = some vo ∧ W.frozen? ⟨b, 25, none⟩ = false ∧ W.cell? ⟨b, 21, none⟩ = some (.int .i64 saw) ∧ W.frozen? ⟨b, 21, none⟩ = false
theorem ApCells.of (h : PX w ρ r b x l) : ApCells b l.vo x.saw w := ⟨h.facts.2.2.2.2.1.2.2.2.2.2.2.1, h.facts.2.2.2.2.2.2 25, h.facts.2.2.2.2.1.2.2.1, h.facts.2.2.2.2.2.2 21⟩
theorem ApW.early {w1 w2 w3 w4 : World} {L : Nat → Bool} {W : World} (h : ApW w1 w2 w3 w4 L W) (h10 : L 10 = false) (h13 : L 13 = false) : W = w2 ∨ W = w1 := by
  unfold ApW at h; rw [h10, h13] at h
  cases h9 : L 9 with
  | true => rw [h9] at h; exact .inl h
  | false => rw [h9] at h; exact .inr h

set_option maxHeartbeats 4000000 in
theorem take_swap (row : Int) (h : PXM w ρ r b x l B mb vw s) (h16 : x.old.length < 16) (hi : I64 x.saw) : Calls Try.prog 124 #[.pointer (some ⟨b, 0, none⟩), .pointer (some ⟨mb, 0, none⟩), .int .i64 row, .bool true] w (AcRet w ρ r b B mb vw (takeP s x row true)) := by
  have H := hid h
  have HE := hid (show takeP s x row true = (if s.okAt (x.stripeP row) x.saw = true then (0, { x with old := x.old ++ [x.saw] }, s.swapped (x.stripeP row) x.saw (takeF x.saw x.th))
    else (1, x, s.swapped (x.stripeP row) x.saw (takeF x.saw x.th))) from if_pos rfl)
  have HT := hid (fun W => Taken_any x.saw x.th W hi)
  have H16 := hid h16
  have hne1 : Nonempty (Sat (TkCells b x.saw x.th)) := ⟨⟨_, TkCells.of h.px⟩⟩
  have hne2 : Nonempty (Sat (fun _ => True)) := ⟨⟨w, trivial⟩⟩
  have y0 := fun (y : Sat (TkCells b x.saw x.th)) => y.p.1
  have y1 := fun (y : Sat (TkCells b x.saw x.th)) => y.p.2.1
  have y2 := fun (y : Sat (TkCells b x.saw x.th)) => y.p.2.2.1
  have y3 := fun (y : Sat (TkCells b x.saw x.th)) => y.p.2.2.2
  clear h hi h16
  go_enter Try.func124, Try.ntmps124
  go_wp2_with fail
  refine wp_region_staged (TkD w ρ r b x l B mb vw s (s.swapped (x.stripeP row) x.saw (takeF x.saw x.th))) (by kernel_rfl) (by kernel_rfl) (fun L hL => TkD.start hL H.out) ?_
  refine wpS_plain (fun _ => True) (fun _ _ _ _ _ => trivial) (fun _ _ h => h) rfl rfl ?_
  intro KK hKK
  go_big_quiet_op
  go_big_quiet_on
  refine wpS_plain (fun _ => True) (fun _ _ _ _ _ => trivial) (fun _ _ h => h) rfl rfl ?_
  intro KK hKK
  go_big_quiet_op
  go_big_quiet_on
  refine wpS_plain (fun _ => True) (fun _ _ _ _ _ => trivial) (fun _ _ h => h) rfl rfl ?_
  intro KK hKK
  go_big_quiet_op
  go_big_quiet_on
  refine wpS_call 123 #[.pointer (some ⟨b, 0, none⟩), .int .i64 row] (.int .i64 (x.stripeP row)) rfl (fun _ => by go_simp) ?_ ?_
  · intro L W hL hcl hd
    refine (stripeAt_any row hd.1.px).mono ?_
    rintro e w'' ⟨rfl, hb⟩
    exact ⟨rfl, TkD.below hd hb⟩
  (try simp only [Act.put, List.getElem_toArray, List.getElem_cons_zero, List.getElem_cons_succ, List.setIfInBounds_toArray, List.set_cons_zero, List.set_cons_succ])
  refine wpS_plain (fun _ => True) (fun _ _ _ _ _ => trivial) (fun _ _ h => h) rfl rfl ?_
  intro KK hKK
  go_big_quiet_op
  go_big_quiet_on
  refine wpS_value (.pointer (some ⟨b, 0, none⟩)) rfl (fun _ => by go_simp) (fun _ _ h => h) ?_
  (try simp only [Act.put, List.getElem_toArray, List.getElem_cons_zero, List.getElem_cons_succ, List.setIfInBounds_toArray, List.set_cons_zero, List.set_cons_succ])
  refine wpS_plain (fun _ => True) (fun _ _ _ _ _ => trivial) (fun _ _ h => h) rfl rfl ?_
  intro KK hKK
  go_big_quiet_op
  go_big_quiet_on
  refine wpS_plain (TkCells b x.saw x.th) (fun L W _ _ hd => TkCells.of hd.1.px) (fun _ _ h => h) rfl rfl ?_
  intro KK hKK
  go_big_quiet_op
  go_big_quiet_on
  refine wpS_plain (fun _ => True) (fun _ _ _ _ _ => trivial) (fun _ _ h => h) rfl rfl ?_
  intro KK hKK
  go_big_quiet_op
  go_big_quiet_on
  refine wpS_value (.pointer (some ⟨b, 0, none⟩)) rfl (fun _ => by go_simp) (fun _ _ h => h) ?_
  (try simp only [Act.put, List.getElem_toArray, List.getElem_cons_zero, List.getElem_cons_succ, List.setIfInBounds_toArray, List.set_cons_zero, List.set_cons_succ])
  refine wpS_plain (fun _ => True) (fun _ _ _ _ _ => trivial) (fun _ _ h => h) rfl rfl ?_
  intro KK hKK
  go_big_quiet_op
  go_big_quiet_on
  refine wpS_plain (TkCells b x.saw x.th) (fun L W _ _ hd => TkCells.of hd.1.px) (fun _ _ h => h) rfl rfl ?_
  intro KK hKK
  go_big_quiet_op
  go_big_quiet_on
  refine wpS_plain (fun _ => True) (fun _ _ _ _ _ => trivial) (fun _ _ h => h) rfl rfl ?_
  intro KK hKK
  go_big_quiet_op
  go_big_quiet_on
  refine wpS_value (.pointer (some ⟨b, 0, none⟩)) rfl (fun _ => by go_simp) (fun _ _ h => h) ?_
  (try simp only [Act.put, List.getElem_toArray, List.getElem_cons_zero, List.getElem_cons_succ, List.setIfInBounds_toArray, List.set_cons_zero, List.set_cons_succ])
  refine wpS_plain (fun _ => True) (fun _ _ _ _ _ => trivial) (fun _ _ h => h) rfl rfl ?_
  intro KK hKK
  go_big_quiet_op
  go_big_quiet_on
  refine wpS_plain (TkCells b x.saw x.th) (fun L W _ _ hd => TkCells.of hd.1.px) (fun _ _ h => h) rfl rfl ?_
  intro KK hKK
  go_big_quiet_op
  go_big_quiet_on
  refine wpS_call 144 #[.int .i64 x.saw, .int .i64 x.th] (.int .i64 (takeF x.saw x.th)) rfl (fun _ => by go_simp) ?_ ?_
  · intro L W hL hcl hd
    refine (HT.out W).mono ?_
    rintro e w'' ⟨rfl, rfl⟩
    exact ⟨rfl, hd⟩
  (try simp only [Act.put, List.getElem_toArray, List.getElem_cons_zero, List.getElem_cons_succ, List.setIfInBounds_toArray, List.set_cons_zero, List.set_cons_succ])
  refine wpS_call 136 #[.pointer (some ⟨mb, 0, none⟩), .int .i64 (x.stripeP row), .int .i64 x.saw, .int .i64 (takeF x.saw x.th)] (.tuple #[.int .i64 (s.vAt (x.stripeP row)), .bool (s.okAt (x.stripeP row) x.saw), .int .i64 (s.eAt (x.stripeP row))]) rfl (fun _ => by go_simp) ?_ ?_
  · intro L W hL hcl hd
    have hd1 := TkD.at17 hd hL
    refine (Swap_at (x.stripeP row) x.saw (takeF x.saw x.th) W B mb vw s hd1.1.mem).mono ?_
    rintro e w'' ⟨rfl, hm, hw⟩
    exact ⟨rfl, TkD.swap hd1 hm hw⟩
  (try simp only [Act.put, List.getElem_toArray, List.getElem_cons_zero, List.getElem_cons_succ, List.setIfInBounds_toArray, List.set_cons_zero, List.set_cons_succ])
  refine wpS_plain (fun _ => True) (fun _ _ _ _ _ => trivial) (fun _ _ h => h) rfl rfl ?_
  intro KK hKK
  go_big_quiet_op
  go_big_quiet_on
  refine wpS_plain (fun _ => True) (fun _ _ _ _ _ => trivial) (fun _ _ h => h) rfl rfl ?_
  intro KK hKK
  go_big_quiet_op
  go_big_quiet_on
  refine wpS_plain (fun _ => True) (fun _ _ _ _ _ => trivial) (fun _ _ h => h) rfl rfl ?_
  intro KK hKK
  go_big_quiet_op
  go_big_quiet_on
  refine wpS_plain (fun _ => True) (fun _ _ _ _ _ => trivial) (fun _ _ h => h) rfl rfl ?_
  intro KK hKK
  go_big_quiet_op
  go_big_quiet_on
  refine wpS_plain (fun _ => True) (fun _ _ _ _ _ => trivial) (fun _ _ h => h) rfl rfl ?_
  intro KK hKK
  go_big_quiet_op
  go_big_quiet_on
  refine wpS_plain (fun _ => True) (fun _ _ _ _ _ => trivial) (fun _ _ h => h) rfl rfl ?_
  intro KK hKK
  go_big_quiet_op
  go_big_quiet_on
  refine wpS_plain (fun _ => True) (fun _ _ _ _ _ => trivial) (fun _ _ h => h) rfl rfl ?_
  intro KK hKK
  go_big_quiet_op
  go_big_quiet_on
  intro L W hall hd0
  have HK := hid (TkD.end_ (hall 17 (by decide)) hd0)
  clear hd0 hall y0 y1 y2 y3 hne1 hne2 HT
  cases hok : s.okAt (x.stripeP row) x.saw with
  | false =>
    rw [hok, if_neg Bool.false_ne_true] at HE
    go_wp2_with fail
    go_ret
    rw [HE.out]
    exact ⟨rfl, ρ, l, Gr.refl _ _, HK.out.1, OwnM.mem HK.out.2⟩
  | true =>
    rw [hok, if_pos rfl] at HE
    clear hok H
    generalize s.swapped (x.stripeP row) x.saw (takeF x.saw x.th) = s2 at *
    have c21 := HK.out.1.px.facts.2.2.2.2.1.2.2.1
    have f21 := HK.out.1.px.facts.2.2.2.2.2.2 21
    have c25 := HK.out.1.px.facts.2.2.2.2.1.2.2.2.2.2.2.1
    have f25 := HK.out.1.px.facts.2.2.2.2.2.2 25
    have hlt := HK.out.1.px.lt
    obtain ⟨oa, oc, hov, _⟩ := HK.out.1.px.ins.old.form
    have HOV := hid hov
    have HJL : JL (W.drew) 0 l.vo x.old := (HK.out.1.below (bdrew (bid _))).px.ins.old
    obtain ⟨v3, w3, hr3, hl3, hw3, ho3⟩ := append_jl_run 24 HJL x.saw (by have := H16.out; omega)
    obtain ⟨va3, vc3, rfl, _⟩ := hl3.form
    have HX1 := hid (HK.out.1.below (bdrew (bid _))).px
    have HTO := hid (HX1.out.tookOne H16.out (bid _) hl3 hw3 ho3)
    have HB3 := hid (show w3.heap[b]? = some (.cells (ptC x l) 121 (0, 0)) from (hw3.block b HX1.out.lt (fun e => by have := HX1.out.ins.b6 _ e; have := HX1.out.ins.b1; omega)).trans HX1.out.blk)
    have m1 : w3.cell? ⟨b, 25, none⟩ = some l.vo := cell_of_blk HB3.out 25
    have m2 := frozen_of_blk HB3.out 25
    have HAC1 := hid (ApCells.of HX1.out)
    have HAC2 := hid (ApCells.of (HX1.out.below (bnew (bid _) (.cells #[.int .i64 x.saw] 2))))
    rw [HOV.out] at hr3 HAC1 HAC2 m1
    have HWM := hid (HK.out.2.drew)
    have HMM := hid (HK.out.1.below (bdrew (bid _)))
    clear hov HJL hl3 hw3 ho3 c25 f25 c21 f21 hlt HK
    generalize hw1 : W.drew = w1 at *
    generalize (x.old ++ [x.saw]).length = n3 at hr3 HTO
    have hne1 : Nonempty (Sat (ApCells b (.slice oa x.old.length oc) x.saw)) := ⟨⟨_, HAC1.out⟩⟩
    have hne2 : Nonempty (Sat (fun _ => True)) := ⟨⟨w, trivial⟩⟩
    have y0 := fun (y : Sat (ApCells b (.slice oa x.old.length oc) x.saw)) => y.p.1
    have y1 := fun (y : Sat (ApCells b (.slice oa x.old.length oc) x.saw)) => y.p.2.1
    have y2 := fun (y : Sat (ApCells b (.slice oa x.old.length oc) x.saw)) => y.p.2.2.1
    have y3 := fun (y : Sat (ApCells b (.slice oa x.old.length oc) x.saw)) => y.p.2.2.2
    go_upto_region 9 with fail
    refine wp_region_staged (ApW w1 (w1.alloc (.cells #[.int .i64 x.saw] 2)) w3 (w3.setCell ⟨b, 25, none⟩ (.slice va3 n3 vc3))) (by kernel_rfl) (by kernel_rfl) (fun L hL => by unfold ApW; rw [hL, hL, hL]; exact hw1) ?_
    refine wpS_plain (fun _ => True) (fun _ _ _ _ _ => trivial) (fun _ _ h => h) rfl rfl ?_
    intro KK hKK
    go_big_quiet_op
    go_big_quiet_on
    refine wpS_plain (fun _ => True) (fun _ _ _ _ _ => trivial) (fun _ _ h => h) rfl rfl ?_
    intro KK hKK
    go_big_quiet_op
    go_big_quiet_on
    refine wpS_value (.pointer (some ⟨b, 0, none⟩)) rfl (fun _ => by go_simp) (fun _ _ h => h) ?_
    (try simp only [Act.put, List.getElem_toArray, List.getElem_cons_zero, List.getElem_cons_succ, List.setIfInBounds_toArray, List.set_cons_zero, List.set_cons_succ])
    refine wpS_plain (fun _ => True) (fun _ _ _ _ _ => trivial) (fun _ _ h => h) rfl rfl ?_
    intro KK hKK
    go_big_quiet_op
    go_big_quiet_on
    refine wpS_plain (ApCells b (.slice oa x.old.length oc) x.saw) (fun L W hL hcl hd => by have h10 := hcl.no hL (j := 10) (by kernel_rfl); have h13 := hcl.no h10 (j := 13) (by kernel_rfl); exact (ApW.early hd h10 h13).elim (fun e => by rw [e]; exact HAC2.out) (fun e => by rw [e]; exact HAC1.out)) (fun _ _ h => h) rfl rfl ?_
    intro KK hKK
    go_big_quiet_op
    go_big_quiet_on
    refine wpS_plain (fun _ => True) (fun _ _ _ _ _ => trivial) (fun _ _ h => h) rfl rfl ?_
    intro KK hKK
    go_big_quiet_op
    go_big_quiet_on
    refine wpS_value (.pointer (some ⟨b, 0, none⟩)) rfl (fun _ => by go_simp) (fun _ _ h => h) ?_
    (try simp only [Act.put, List.getElem_toArray, List.getElem_cons_zero, List.getElem_cons_succ, List.setIfInBounds_toArray, List.set_cons_zero, List.set_cons_succ])
    refine wpS_plain (fun _ => True) (fun _ _ _ _ _ => trivial) (fun _ _ h => h) rfl rfl ?_
    intro KK hKK
    go_big_quiet_op
    go_big_quiet_on
    refine wpS_plain (ApCells b (.slice oa x.old.length oc) x.saw) (fun L W hL hcl hd => by have h9 := hcl.no hL (j := 9) (by kernel_rfl); have h10 := hcl.no h9 (j := 10) (by kernel_rfl); have h13 := hcl.no h10 (j := 13) (by kernel_rfl); exact (ApW.early hd h10 h13).elim (fun e => by rw [e]; exact HAC2.out) (fun e => by rw [e]; exact HAC1.out)) (fun _ _ h => h) rfl rfl ?_
    intro KK hKK
    go_big_quiet_op
    go_big_quiet_on
    refine ⟨.slice (some ⟨w1.heap.size, 0, none⟩) 1 1, .inl ⟨rfl, fun L W hL hcl hd => ?_⟩, ?_⟩
    · have h10 := hcl.no hL (j := 10) (by kernel_rfl)
      have h13 := hcl.no h10 (j := 13) (by kernel_rfl)
      obtain rfl : W = w1 := by unfold ApW at hd; rw [h13, h10, hL] at hd; exact hd
      go_simp
      refine ⟨rfl, ?_⟩
      unfold ApW
      rw [bump_ne _ (by decide), bump_ne _ (by decide), bump_at, h13, h10]
      rfl
    (try simp only [Act.put, List.getElem_toArray, List.getElem_cons_zero, List.getElem_cons_succ, List.setIfInBounds_toArray, List.set_cons_zero, List.set_cons_succ])
    refine ⟨(.slice va3 n3 vc3), .inl ⟨rfl, fun L W hL hcl hd => ?_⟩, ?_⟩
    · have h13 := hcl.no hL (j := 13) (by kernel_rfl)
      have h9 := hcl.dep (i := 9) (by kernel_rfl)
      obtain rfl : W = w1.alloc (.cells #[.int .i64 x.saw] 2) := by unfold ApW at hd; rw [h13, hL, h9] at hd; exact hd
      refine gUpon_append (.tmp 55) (.tmp 60) rfl rfl rfl hr3 ?_
      unfold ApW
      rw [bump_ne _ (by decide), bump_at, h13]
      rfl
    (try simp only [Act.put, List.getElem_toArray, List.getElem_cons_zero, List.getElem_cons_succ, List.setIfInBounds_toArray, List.set_cons_zero, List.set_cons_succ])
    refine wpS_value (.pointer (some ⟨b, 0, none⟩)) rfl (fun _ => by go_simp) (fun _ _ h => h) ?_
    (try simp only [Act.put, List.getElem_toArray, List.getElem_cons_zero, List.getElem_cons_succ, List.setIfInBounds_toArray, List.set_cons_zero, List.set_cons_succ])
    refine wpS_plain (fun _ => True) (fun _ _ _ _ _ => trivial) (fun _ _ h => h) rfl rfl ?_
    intro KK hKK
    go_big_quiet_op
    go_big_quiet_on
    refine wpS_store rfl ?_ ?_
    · intro L W hL hcl hd
      have h10 := hcl.dep (i := 10) (by kernel_rfl)
      obtain rfl : W = w3 := by unfold ApW at hd; rw [hL, h10] at hd; exact hd
      refine ⟨W.setCell ⟨b, 25, none⟩ (.slice va3 n3 vc3), by go_simp, ?_⟩
      unfold ApW
      rw [bump_at]
      rfl
    (try simp only [Act.put, List.getElem_toArray, List.getElem_cons_zero, List.getElem_cons_succ, List.setIfInBounds_toArray, List.set_cons_zero, List.set_cons_succ])
    intro L W hall hd
    have HWE := hid (show W = w3.setCell ⟨b, 25, none⟩ (.slice va3 n3 vc3) from by unfold ApW at hd; rw [hall 13 (by decide)] at hd; exact hd)
    clear hd hall y0 y1 y2 y3 hne1 hne2
    obtain ⟨ρ', hg', hx', ho'⟩ := HTO.out
    rw [← HWE.out] at hx' ho'
    have HG' := hid hg'
    have HX' := hid (HMM.out.turn hx' hg' ho')
    have HO' := hid ho'
    clear hg' hx' ho'
    go_wp2_with fail
    go_ret
    rw [HE.out]
    exact ⟨rfl, ρ', _, fun k hk => HG'.out k (Nat.lt_of_lt_of_le hk HWM.out.size), HX'.out, (OwnM.mem HWM.out).then (OwnM.own HO'.out) fun _ _ h => h⟩

end Go.Proofs.Ytjfinnjmcnjciaa

namespace Go.Proofs.Ytjfinnjmcnjciaa
open Go.RowKit
attribute [local go_sem] Later.cell Later.frozen

variable {w w' : World} {ρ : Nat → Nat} {r b : Nat} {x : PT} {l : PL} {B mb : Nat} {vw : Value} {s s' : MS} {L : Nat → Bool} {W W' : World}
def bumpP (s : MS) (x : PT) : Int × PT × MS :=
  if (bumpF x.m s x.bump).1.s ≠ 9 then (0, { x with bump := (bumpF x.m s x.bump).1 }, (bumpF x.m s x.bump).2)
  else (if x.top < (bumpF x.m s x.bump).1.p then 5 else 0, { x with bump := (bumpF x.m s x.bump).1, made := (bumpF x.m s x.bump).1.p }, (bumpF x.m s x.bump).2)
/-- Cells that a stamp reads of its own. -/
def BoCells (b : Nat) (x : PT) (W : World) : Prop := (W.cell? ⟨b, 0, none⟩ = some (.int .i64 x.m.s) ∧ W.cell? ⟨b, 1, none⟩ = some (.int .i64 x.m.l) ∧ W.cell? ⟨b, 2, none⟩ = some (.int .i64 x.m.t) ∧ W.cell? ⟨b, 3, none⟩ = some (.int .i64 x.m.c) ∧ W.cell? ⟨b, 4, none⟩ = some (.int .i64 x.m.d)) ∧
  (W.cell? ⟨b, 27, none⟩ = some (.int .i64 x.bump.k) ∧ W.cell? ⟨b, 28, none⟩ = some (.int .i64 x.bump.s) ∧ W.cell? ⟨b, 29, none⟩ = some (.int .i64 x.bump.x) ∧ W.cell? ⟨b, 30, none⟩ = some (.int .i64 x.bump.p)) ∧ ∀ i, W.frozen? ⟨b, i, none⟩ = false
theorem BoCells.of (h : PX w ρ r b x l) : BoCells b x w := ⟨h.facts.1, h.facts.2.2.2.2.2.1, h.facts.2.2.2.2.2.2⟩
def BoA (w : World) (ρ : Nat → Nat) (r b : Nat) (x : PT) (l : PL) (B mb : Nat) (vw : Value) (s : MS) (W : World) : Prop := PXM W ρ r b x l B mb vw s ∧ Wrote (OwnM ρ r mb vw) w W
def BoD (w : World) (ρ : Nat → Nat) (r b : Nat) (x : PT) (l : PL) (B mb : Nat) (vw : Value) (s s' : MS) (g : BD) (L : Nat → Bool) (W : World) : Prop := (bif L 13 then BoA w ρ r b { x with bump := g } l B mb vw s' else bif L 10 then BoA w ρ r b x l B mb vw s' else BoA w ρ r b x l B mb vw s) W
variable {g : BD}
theorem BoD.start (hL : ∀ j, L j = false) (h : PXM w ρ r b x l B mb vw s) : BoD w ρ r b x l B mb vw s s' g L w.drew := by
  unfold BoD
  rw [hL 13, hL 10]
  exact ⟨h.below (bdrew (bid _)), (Wrote.refl _ _).drew⟩
theorem BoD.at1 (h : BoD w ρ r b x l B mb vw s s' g L W) (h10 : L 10 = false) (h13 : L 13 = false) : BoA w ρ r b x l B mb vw s W := by unfold BoD at h; rw [h10, h13] at h; exact h
theorem BoD.at2 (h : BoD w ρ r b x l B mb vw s s' g L W) (h10 : L 10 = true) (h13 : L 13 = false) : BoA w ρ r b x l B mb vw s' W := by unfold BoD at h; rw [h10, h13] at h; exact h
theorem BoD.end_ (h13 : L 13 = true) (h : BoD w ρ r b x l B mb vw s s' g L W) : BoA w ρ r b { x with bump := g } l B mb vw s' W := by unfold BoD at h; rw [h13] at h; exact h
theorem BoD.put2 (h13 : L 13 = false) (h : BoA w ρ r b x l B mb vw s' W) : BoD w ρ r b x l B mb vw s s' g (bump L 10) W := by unfold BoD; rw [bump_ne _ (by decide), h13, bump_at]; exact h
theorem BoD.put3 (h : BoA w ρ r b { x with bump := g } l B mb vw s' W) : BoD w ρ r b x l B mb vw s s' g (bump L 13) W := by unfold BoD; rw [bump_at]; exact h
theorem PXM.bumped (h : PXM W ρ r b x l B mb vw s) (hw : Wrote (OwnM ρ r mb vw) w W) {gk gs gx gp : Int} : BoA w ρ r b { x with bump := ⟨gk, gs, gx, gp⟩ } l B mb vw s ((((W.setCell ⟨b, 27, none⟩ (.int .i64 gk)).setCell ⟨b, 28, none⟩ (.int .i64 gs)).setCell ⟨b, 29, none⟩ (.int .i64 gx)).setCell ⟨b, 30, none⟩ (.int .i64 gp)) := by
  have hw7 := ((((Wrote.refl (fun k => k = b) W).setCell (p := ⟨b, 27, none⟩) (fun _ => rfl) (.int .i64 gk)).setCell (p := ⟨b, 28, none⟩) (fun _ => rfl) (.int .i64 gs)).setCell (p := ⟨b, 29, none⟩) (fun _ => rfl) (.int .i64 gx)).setCell (p := ⟨b, 30, none⟩) (fun _ => rfl) (.int .i64 gp)
  exact ⟨h.upd (x' := { x with bump := ⟨gk, gs, gx, gp⟩ }) (l' := l) (blk_setCell (blk_setCell (blk_setCell (blk_setCell h.px.blk 27 (.int .i64 gk)) 28 (.int .i64 gs)) 29 (.int .i64 gx)) 30 (.int .i64 gp)) hw7 rfl rfl rfl ⟨rfl, rfl⟩, hw.trans (OwnM.own (h.px.wr1 hw7))⟩

set_option maxHeartbeats 4000000 in
theorem bumpOn_any (h : PXM w ρ r b x l B mb vw s) (hz : x.m.size ≤ (s.zs.length : Int)) : Calls Try.prog 125 #[.pointer (some ⟨b, 0, none⟩), .pointer (some ⟨mb, 0, none⟩)] w (AcRet w ρ r b B mb vw (bumpP s x)) := by
  have H := hid h
  have HST := hid (fun W (hm : Mem W B mb vw s) => show Calls Try.prog 145 #[.agg #[.int .i64 x.m.s, .int .i64 x.m.l, .int .i64 x.m.t, .int .i64 x.m.c, .int .i64 x.m.d], .pointer (some ⟨mb, 0, none⟩), .agg #[.int .i64 x.bump.k, .int .i64 x.bump.s, .int .i64 x.bump.x, .int .i64 x.bump.p]] W (BumpRet 106 2 (bumpF x.m s x.bump).1 (bumpF x.m s x.bump).2 B mb vw W) from Step_any x.m x.bump W B mb vw s hm hz)
  obtain ⟨⟨⟨gk, gs, gx, gp⟩, s2⟩, hbf⟩ : ∃ q, bumpF x.m s x.bump = q := ⟨_, rfl⟩
  have HE := hid (show bumpP s x = if gs ≠ 9 then (0, { x with bump := ⟨gk, gs, gx, gp⟩ }, s2) else (if x.top < gp then 5 else 0, { x with bump := ⟨gk, gs, gx, gp⟩, made := gp }, s2) from by unfold bumpP; rw [hbf])
  rw [hbf] at HST
  clear hbf
  have hne1 : Nonempty (Sat (BoCells b x)) := ⟨⟨_, BoCells.of h.px⟩⟩
  have hne2 : Nonempty (Sat (fun _ => True)) := ⟨⟨w, trivial⟩⟩
  have y0 := fun (y : Sat (BoCells b x)) => y.p.1.1
  have y1 := fun (y : Sat (BoCells b x)) => y.p.1.2.1
  have y2 := fun (y : Sat (BoCells b x)) => y.p.1.2.2.1
  have y3 := fun (y : Sat (BoCells b x)) => y.p.1.2.2.2.1
  have y4 := fun (y : Sat (BoCells b x)) => y.p.1.2.2.2.2
  have y5 := fun (y : Sat (BoCells b x)) => y.p.2.1.1
  have y6 := fun (y : Sat (BoCells b x)) => y.p.2.1.2.1
  have y7 := fun (y : Sat (BoCells b x)) => y.p.2.1.2.2.1
  have y8 := fun (y : Sat (BoCells b x)) => y.p.2.1.2.2.2
  have yf := fun (y : Sat (BoCells b x)) (i : Nat) => y.p.2.2 i
  clear h hz
  go_enter Try.func125, Try.ntmps125
  go_wp2_with fail
  refine wp_region_staged (BoD w ρ r b x l B mb vw s s2 ⟨gk, gs, gx, gp⟩) (by kernel_rfl) (by kernel_rfl) (fun L hL => BoD.start hL H.out) ?_
  refine wpS_plain (fun _ => True) (fun _ _ _ _ _ => trivial) (fun _ _ h => h) rfl rfl ?_
  intro KK hKK
  go_big_quiet_op
  go_big_quiet_on
  refine wpS_plain (fun _ => True) (fun _ _ _ _ _ => trivial) (fun _ _ h => h) rfl rfl ?_
  intro KK hKK
  go_big_quiet_op
  go_big_quiet_on
  refine wpS_value (.pointer (some ⟨b, 0, none⟩)) rfl (fun _ => by go_simp) (fun _ _ h => h) ?_
  (try simp only [Act.put, List.getElem_toArray, List.getElem_cons_zero, List.getElem_cons_succ, List.setIfInBounds_toArray, List.set_cons_zero, List.set_cons_succ])
  refine wpS_plain (fun _ => True) (fun _ _ _ _ _ => trivial) (fun _ _ h => h) rfl rfl ?_
  intro KK hKK
  go_big_quiet_op
  go_big_quiet_on
  refine wpS_plain (BoCells b x) (fun L W hL hcl hd => by have h10 := hcl.no hL (j := 10) (by kernel_rfl); have h13 := hcl.no h10 (j := 13) (by kernel_rfl); exact BoCells.of (BoD.at1 hd h10 h13).1.px) (fun _ _ h => h) rfl rfl ?_
  intro KK hKK
  go_big_quiet_op
  go_big_quiet_on
  refine wpS_plain (fun _ => True) (fun _ _ _ _ _ => trivial) (fun _ _ h => h) rfl rfl ?_
  intro KK hKK
  go_big_quiet_op
  go_big_quiet_on
  refine wpS_plain (fun _ => True) (fun _ _ _ _ _ => trivial) (fun _ _ h => h) rfl rfl ?_
  intro KK hKK
  go_big_quiet_op
  go_big_quiet_on
  refine wpS_value (.pointer (some ⟨b, 0, none⟩)) rfl (fun _ => by go_simp) (fun _ _ h => h) ?_
  (try simp only [Act.put, List.getElem_toArray, List.getElem_cons_zero, List.getElem_cons_succ, List.setIfInBounds_toArray, List.set_cons_zero, List.set_cons_succ])
  refine wpS_plain (fun _ => True) (fun _ _ _ _ _ => trivial) (fun _ _ h => h) rfl rfl ?_
  intro KK hKK
  go_big_quiet_op
  go_big_quiet_on
  refine wpS_plain (BoCells b x) (fun L W hL hcl hd => by have h10 := hcl.no hL (j := 10) (by kernel_rfl); have h13 := hcl.no h10 (j := 13) (by kernel_rfl); exact BoCells.of (BoD.at1 hd h10 h13).1.px) (fun _ _ h => h) rfl rfl ?_
  intro KK hKK
  go_big_quiet_op
  go_big_quiet_on
  refine wpS_call 145 #[.agg #[.int .i64 x.m.s, .int .i64 x.m.l, .int .i64 x.m.t, .int .i64 x.m.c, .int .i64 x.m.d], .pointer (some ⟨mb, 0, none⟩), .agg #[.int .i64 x.bump.k, .int .i64 x.bump.s, .int .i64 x.bump.x, .int .i64 x.bump.p]] (.agg #[.int .i64 gk, .int .i64 gs, .int .i64 gx, .int .i64 gp]) rfl (fun _ => by go_simp) ?_ ?_
  · intro L W hL hcl hd
    have h13 := hcl.no hL (j := 13) (by kernel_rfl)
    have hd1 := BoD.at1 hd hL h13
    refine (HST.out W hd1.1.mem).mono ?_
    rintro e w'' ⟨rfl, hm, hw⟩
    exact ⟨rfl, BoD.put2 h13 ⟨hd1.1.memd hm hw, hd1.2.trans (OwnM.mem hw)⟩⟩
  (try simp only [Act.put, List.getElem_toArray, List.getElem_cons_zero, List.getElem_cons_succ, List.setIfInBounds_toArray, List.set_cons_zero, List.set_cons_succ])
  refine wpS_value (.pointer (some ⟨b, 0, none⟩)) rfl (fun _ => by go_simp) (fun _ _ h => h) ?_
  (try simp only [Act.put, List.getElem_toArray, List.getElem_cons_zero, List.getElem_cons_succ, List.setIfInBounds_toArray, List.set_cons_zero, List.set_cons_succ])
  refine wpS_plain (fun _ => True) (fun _ _ _ _ _ => trivial) (fun _ _ h => h) rfl rfl ?_
  intro KK hKK
  go_big_quiet_op
  go_big_quiet_on
  refine wpS_store rfl ?_ ?_
  · intro L W hL hcl hd
    have h10 := hcl.dep (i := 10) (by kernel_rfl)
    have hd1 := BoD.at2 hd h10 hL
    have d27 := hd1.1.px.facts.2.2.2.2.2.1.1
    have d28 := hd1.1.px.facts.2.2.2.2.2.1.2.1
    have d29 := hd1.1.px.facts.2.2.2.2.2.1.2.2.1
    have d30 := hd1.1.px.facts.2.2.2.2.2.1.2.2.2
    have g27 := hd1.1.px.facts.2.2.2.2.2.2 27
    have g28 := hd1.1.px.facts.2.2.2.2.2.2 28
    have g29 := hd1.1.px.facts.2.2.2.2.2.2 29
    have g30 := hd1.1.px.facts.2.2.2.2.2.2 30
    exact ⟨_, by go_simp, BoD.put3 (hd1.1.bumped hd1.2)⟩
  (try simp only [Act.put, List.getElem_toArray, List.getElem_cons_zero, List.getElem_cons_succ, List.setIfInBounds_toArray, List.set_cons_zero, List.set_cons_succ])
  intro L W hall hd0
  have HK := hid (BoD.end_ (hall 13 (by decide)) hd0)
  clear hd0 hall y0 y1 y2 y3 y4 y5 y6 y7 y8 yf hne1 hne2 HST
  go_upto_region 2 with fail
  refine wp_renamed (BoA w ρ r b { x with bump := ⟨gk, gs, gx, gp⟩ } l B mb vw s2) HK.out ?_
  clear HK H
  rintro V ⟨hx, hw⟩
  have HX := hid hx
  have HW := hid hw
  have d28 := hx.px.facts.2.2.2.2.2.1.2.1
  have g28 := hx.px.facts.2.2.2.2.2.2 28
  by_cases h9 : gs = 9
  · subst h9
    rw [if_neg (show ¬ ((9 : Int) ≠ 9) from fun h => h rfl)] at HE
    have d30 := hx.px.facts.2.2.2.2.2.1.2.2.2
    have g30 := hx.px.facts.2.2.2.2.2.2 30
    have d15 := hx.px.facts.2.2.1.2.2.2.2.1
    have g15 := hx.px.facts.2.2.2.2.2.2 15
    have hw2 := (Wrote.refl (fun k => k = b) V).setCell (p := ⟨b, 15, none⟩) (fun _ => rfl) (.int .i64 gp)
    have HX2 := hid (hx.upd (x' := { x with bump := ⟨gk, 9, gx, gp⟩, made := gp }) (l' := l) (blk_setCell hx.px.blk 15 (.int .i64 gp)) hw2 rfl rfl rfl ⟨rfl, rfl⟩)
    have HW2 := hid (hw.trans (OwnM.own (hx.px.wr1 hw2)))
    clear hx hw hw2
    go_upto_region 5 with fail
    refine wp_renamed (BoA w ρ r b { x with bump := ⟨gk, 9, gx, gp⟩, made := gp } l B mb vw s2) ⟨HX2.out, HW2.out⟩ ?_
    clear HX2 HW2 HX HW d28 g28 d30 g30 d15 g15
    rintro V2 ⟨hx, hw⟩
    have HX := hid hx
    have HW := hid hw
    have hlt := hx.px.lt
    have d15 := hx.px.facts.2.2.1.2.2.2.2.1
    have g15 := hx.px.facts.2.2.2.2.2.2 15
    have d7 := hx.px.facts.2.1.2.2.1
    have g7 := hx.px.facts.2.2.2.2.2.2 7
    have HO := hid (fun U => Over_any gp x.top U)
    clear hx hw
    by_cases ht : x.top < gp
    · have hd : decide (gp > x.top) = true := decide_eq_true ht
      rw [hd] at HO
      rw [if_pos ht] at HE
      refine wp_region_later (by kernel_rfl) (by kernel_rfl) ?_
      repeat (go_big_quiet_step ((go_at_call 139; with_reducible exact later_same (HO.out _))))
      refine wpQuiet_nil ?_
      rintro _ ⟨y, rfl⟩
      go_wp2_with fail
      go_ret
      rw [HE.out]
      exact ⟨rfl, ρ, l, Gr.refl _ _, HX.out.below y.below, HW.out.trans (Wrote.of_below y.below _)⟩
    · have hd : decide (gp > x.top) = false := decide_eq_false ht
      rw [hd] at HO
      rw [if_neg ht] at HE
      refine wp_region_later (by kernel_rfl) (by kernel_rfl) ?_
      repeat (go_big_quiet_step ((go_at_call 139; with_reducible exact later_same (HO.out _))))
      refine wpQuiet_nil ?_
      rintro _ ⟨y, rfl⟩
      go_wp2_with fail
      go_ret
      rw [HE.out]
      exact ⟨rfl, ρ, l, Gr.refl _ _, HX.out.below y.below, HW.out.trans (Wrote.of_below y.below _)⟩
  · have h9b : (gs != 9) = true := by simpa using h9
    rw [if_pos h9] at HE
    clear hx hw
    go_wp2_with fail
    go_ret
    rw [HE.out]
    exact ⟨rfl, ρ, l, Gr.refl _ _, HX.out, HW.out⟩

end Go.Proofs.Ytjfinnjmcnjciaa

namespace Go.Proofs.Ytjfinnjmcnjciaa
open Go.RowKit
attribute [local go_sem] Later.cell Later.frozen

variable {w w' : World} {ρ : Nat → Nat} {r b : Nat} {x : PT} {l : PL} {B mb : Nat} {vw : Value} {s s' : MS}
abbrev AccC (w : World) (ρ : Nat → Nat) (r b : Nat) (x : PT) (B mb : Nat) (vw : Value) (s : MS) (p : Int) (i : Nat) : Prop :=
  Calls Try.prog 86 #[.pointer (some ⟨b, 0, none⟩), .pointer (some ⟨mb, 0, none⟩), .int .i64 p, .int .i64 i] w (AcRet w ρ r b B mb vw (accP s x p i))
/-- One of its cells turned behind an access to the memory. -/
theorem PXM.put1 (h : PXM w ρ r b x l B mb vw s) {W : World} (hw : Wrote (OwnM ρ r mb vw) W w) (i : Nat) (u : Value) {x' : PT} (hc : (ptC x l).setIfInBounds i u = ptC x' l) (hx : x'.core = x.core) (hp : x'.parts = x.parts) : PXM (w.setCell ⟨b, i, none⟩ u) ρ r b x' l B mb vw s ∧ Wrote (OwnM ρ r mb vw) W (w.setCell ⟨b, i, none⟩ u) := by
  have hw7 := (Wrote.refl (fun k => k = b) w).setCell (p := ⟨b, i, none⟩) (fun _ => rfl) u
  exact ⟨h.upd (x' := x') (l' := l) ((blk_setCell h.px.blk i u).trans (by rw [hc])) hw7 hx rfl hp ⟨rfl, rfl⟩, hw.trans (OwnM.own (h.px.wr1 hw7))⟩
theorem mload (p : Int) (h : PXM w ρ r b x l B mb vw s) : Calls Try.prog 107 #[.pointer (some ⟨mb, 0, none⟩), .int .i64 p] w (MmRet w B mb vw (.tuple #[.int .i64 (s.vAt p), .int .i64 (s.eAt p)]) (s.loaded p)) := Load_at p w B mb vw s h.mem
theorem mstore (p v : Int) (h : PXM w ρ r b x l B mb vw s) : Calls Try.prog 34 #[.pointer (some ⟨mb, 0, none⟩), .int .i64 p, .int .i64 v] w (MmRet w B mb vw (.int .i64 (s.eAt p)) (s.stored p v)) := Store_at p v w B mb vw s h.mem

set_option maxHeartbeats 4000000 in
set_option maxRecDepth 100000 in
theorem acc_0 (i : Nat) (h : PXM w ρ r b x l B mb vw s) : AccC w ρ r b x B mb vw s 0 i := by
  have H := hid h
  obtain ⟨⟨c0, c1, c2, c3, c4⟩, _, _, _, _, _, cf⟩ := h.px.facts
  have f0 := cf 0
  have f1 := cf 1
  have f2 := cf 2
  have f3 := cf 3
  have f4 := cf 4
  have HC := hid (show Calls Try.prog 119 #[.agg #[.int .i64 x.m.s, .int .i64 x.m.l, .int .i64 x.m.t, .int .i64 x.m.c, .int .i64 x.m.d]] w (fun e w' => e = .returned (.int .i64 (x.m.at_ 0 0 0)) ∧ Below w.heap.size w w') from Clock_any x.m w)
  clear h cf
  go_enter Try.func86, Try.ntmps86
  go_wp2_with (first | (go_at_call 119; go_must ((with_reducible refine HC.out.mono ?_); rintro e w1 ⟨rfl, hb⟩; have HX := hid (H.out.below hb); have HW := hid (Wrote.of_below hb (OwnM ρ r mb vw)); clear hb)) | (go_at_call 107; go_must ((with_reducible refine (mload _ HX.out).mono ?_); rintro e w2 ⟨rfl, hm, hw⟩; have HX2 := hid (HX.out.memd hm hw); have HW2 := hid (HW.out.trans (OwnM.mem hw)); clear hm hw; have c23 := HX2.out.px.facts.2.2.2.2.1.2.2.2.2.1; have f23 := HX2.out.px.facts.2.2.2.2.2.2 23)))
  go_ret
  have hp := HX2.out.put1 (x' := { x with now := s.vAt (x.m.at_ 0 0 0) }) HW2.out 23 (.int .i64 (s.vAt (x.m.at_ 0 0 0))) rfl rfl rfl
  exact ⟨rfl, ρ, l, Gr.refl _ _, hp.1, hp.2⟩

set_option maxHeartbeats 4000000 in
set_option maxRecDepth 100000 in
theorem acc_2 (i : Nat) (h : PXM w ρ r b x l B mb vw s) : AccC w ρ r b x B mb vw s 2 i := by
  have HX := hid h
  have HW := hid (Wrote.refl (OwnM ρ r mb vw) w)
  have c19 := h.px.facts.2.2.2.2.1.1
  have f19 := h.px.facts.2.2.2.2.2.2 19
  clear h
  go_enter Try.func86, Try.ntmps86
  go_wp2_with (go_at_call 107; go_must ((with_reducible refine (mload _ HX.out).mono ?_); rintro e w2 ⟨rfl, hm, hw⟩; have HX2 := hid (HX.out.memd hm hw); have HW2 := hid (HW.out.trans (OwnM.mem hw)); clear hm hw; have c22 := HX2.out.px.facts.2.2.2.2.1.2.2.2.1; have f22 := HX2.out.px.facts.2.2.2.2.2.2 22))
  go_ret
  have hp := HX2.out.put1 (x' := { x with got := s.vAt x.at_ }) HW2.out 22 (.int .i64 (s.vAt x.at_)) rfl rfl rfl
  exact ⟨rfl, ρ, l, Gr.refl _ _, hp.1, hp.2⟩

set_option maxHeartbeats 4000000 in
set_option maxRecDepth 100000 in
theorem acc_1 (i : Nat) (h : PXM w ρ r b x l B mb vw s) : AccC w ρ r b x B mb vw s 1 i := by
  have HX := hid h
  have HW := hid (Wrote.refl (OwnM ρ r mb vw) w)
  have c20 := h.px.facts.2.2.2.2.1.2.1
  have f20 := h.px.facts.2.2.2.2.2.2 20
  have HL := hid (look_any' x.row h)
  have HF := hid (fun U => Fresh_any (s.vAt (x.stripeP x.row)) x.stamp U)
  have HE := hid (show accP s x 1 i = (freshF (s.vAt (x.stripeP x.row)) x.stamp, { x with saw := s.vAt (x.stripeP x.row) }, s.loaded (x.stripeP x.row)) from rfl)
  unfold AccC
  rw [HE.out]
  clear h HE
  generalize s.vAt (x.stripeP x.row) = v at *
  generalize freshF v x.stamp = fr at *
  go_enter Try.func86, Try.ntmps86
  go_upto_region 6 with (go_at_call 120; go_must ((with_reducible refine HL.out.mono ?_); rintro e w2 ⟨rfl, hm, hw⟩; have HX2 := hid (HX.out.memd hm hw); have HW2 := hid (HW.out.trans (OwnM.mem hw)); clear hm hw; have c21 := HX2.out.px.facts.2.2.2.2.1.2.2.1; have f21 := HX2.out.px.facts.2.2.2.2.2.2 21))
  have hp := HX2.out.put1 (x' := { x with saw := v }) HW2.out 21 (.int .i64 v) rfl rfl rfl
  refine wp_renamed (BoA w ρ r b { x with saw := v } l B mb vw (s.loaded (x.stripeP x.row))) hp ?_
  clear hp HX2 HW2 HX HW c20 f20 c21 f21 HL
  rintro V ⟨hx, hw⟩
  have HX := hid hx
  have HW := hid hw
  have hlt := hx.px.lt
  have c21 := hx.px.facts.2.2.2.2.1.2.2.1
  have f21 := hx.px.facts.2.2.2.2.2.2 21
  have c14 := hx.px.facts.2.2.1.2.2.2.1
  have f14 := hx.px.facts.2.2.2.2.2.2 14
  clear hx hw
  refine wp_region_later (by kernel_rfl) (by kernel_rfl) ?_
  repeat (go_big_quiet_step ((go_at_call 121; with_reducible exact later_same (HF.out _))))
  refine wpQuiet_nil ?_
  rintro _ ⟨y, rfl⟩
  go_wp2_with fail
  go_ret
  exact ⟨rfl, ρ, l, Gr.refl _ _, HX.out.below y.below, HW.out.trans (Wrote.of_below y.below _)⟩

set_option maxHeartbeats 4000000 in
set_option maxRecDepth 100000 in
theorem acc_3 (i : Nat) (h : PXM w ρ r b x l B mb vw s) : AccC w ρ r b x B mb vw s 3 i := by
  have H := hid h
  have hlt := h.px.lt
  have c20 := h.px.facts.2.2.2.2.1.2.1
  have f20 := h.px.facts.2.2.2.2.2.2 20
  have c21 := h.px.facts.2.2.2.2.1.2.2.1
  have f21 := h.px.facts.2.2.2.2.2.2 21
  have HS := hid (fun (y : Later w) => stripeAt_any x.row (h.px.below y.below))
  have HU := hid (fun (y : Later w) => unlike_any (x.stripeP x.row) x.saw 2 (h.below y.below).mem)
  have HE := hid (show accP s x 3 i = (if s.vAt (x.stripeP x.row) ≠ x.saw then 2 else 0, x, s.loaded (x.stripeP x.row)) from rfl)
  unfold AccC
  rw [HE.out]
  clear h HE
  generalize (if s.vAt (x.stripeP x.row) ≠ x.saw then (2 : Int) else 0) = z at *
  go_enter Try.func86, Try.ntmps86
  go_wp2_with fail
  refine wp_region_later_tail 11 (by kernel_rfl) (by kernel_rfl) ?_
  simp only [List.take_succ_cons, List.take_zero, List.drop_succ_cons, List.drop_zero]
  repeat (go_big_quiet_step ((go_at_call 123; with_reducible exact later_call (HS.out _))))
  refine wpQuiet_nil ?_
  rintro _ ⟨y, rfl⟩
  have HX := hid (H.out.below y.below)
  have HW := hid (Wrote.of_below y.below (OwnM ρ r mb vw))
  go_wp2_with (go_at_call 122; go_must ((with_reducible refine (HU.out y).mono ?_); rintro e w2 ⟨rfl, hm, hw⟩; have HX2 := hid (HX.out.memd hm hw); have HW2 := hid (HW.out.trans (OwnM.mem hw)); clear hm hw))
  go_ret
  exact ⟨rfl, ρ, l, Gr.refl _ _, HX2.out, HW2.out⟩

set_option maxHeartbeats 4000000 in
set_option maxRecDepth 100000 in
theorem acc_4 (i : Nat) (h : PXM w ρ r b x l B mb vw s) (hi : i < x.wt.length) : AccC w ρ r b x B mb vw s 4 i := by
  have H := hid h
  have hlt := h.px.lt
  have c10 := h.px.facts.2.1.2.2.2.2.2
  have f10 := h.px.facts.2.2.2.2.2.2 10
  obtain ⟨a, n, hv, hrow⟩ := h.px.ins.wt.form
  obtain ⟨g, off, rfl, hg, hcs⟩ := hrow.at (by omega)
  obtain ⟨⟨p1, p2⟩, hp⟩ := word_at (ws := x.wt) (k := i) hi
  obtain ⟨q0, q1⟩ := hcs i _ hp
  rw [hv] at c10
  have HU := hid (fun (y : Later w) => unlike_any p1 p2 3 (h.below y.below).mem)
  have HE := hid (show accP s x 4 i = (if s.vAt p1 ≠ p2 then 3 else 0, x, s.loaded p1) from by
    have : x.wt.getD i (0, 0) = (p1, p2) := by rw [List.getD_eq_getElem?_getD, hp]; rfl
    show (if s.vAt (x.wt.getD i (0, 0)).1 ≠ (x.wt.getD i (0, 0)).2 then (3 : Int) else 0, x, s.loaded (x.wt.getD i (0, 0)).1) = _
    rw [this])
  have n1 : (0 : Int) ≤ (i : Int) := by omega
  have n2 : (i : Int) < (x.wt.length : Int) := by omega
  unfold AccC
  rw [HE.out]
  clear h hcs hrow hv hp HE hi
  generalize (if s.vAt p1 ≠ p2 then (3 : Int) else 0) = z at *
  generalize x.wt.length = m at c10 n2
  go_enter Try.func86, Try.ntmps86
  go_wp2_with fail
  refine wp_region_later_tail 17 (by kernel_rfl) (by kernel_rfl) ?_
  simp only [List.take_succ_cons, List.take_zero, List.drop_succ_cons, List.drop_zero]
  repeat (go_big_quiet_step (fail))
  refine wpQuiet_nil ?_
  rintro _ ⟨y, rfl⟩
  have HX := hid (H.out.below y.below)
  have HW := hid (Wrote.of_below y.below (OwnM ρ r mb vw))
  go_wp2_with (go_at_call 122; go_must ((with_reducible refine (HU.out y).mono ?_); rintro e w2 ⟨rfl, hm, hw⟩; have HX2 := hid (HX.out.memd hm hw); have HW2 := hid (HW.out.trans (OwnM.mem hw)); clear hm hw))
  go_ret
  exact ⟨rfl, ρ, l, Gr.refl _ _, HX2.out, HW2.out⟩

set_option maxHeartbeats 4000000 in
set_option maxRecDepth 100000 in
theorem acc_6 (i : Nat) (h : PXM w ρ r b x l B mb vw s) : AccC w ρ r b x B mb vw s 6 i := by
  have H := hid h
  have HP := hid (tpphase_any h.px)
  clear h
  go_enter Try.func86, Try.ntmps86
  go_wp2_with (first | (go_at_call 127; go_must ((with_reducible refine HP.out.mono ?_); rintro e w1 ⟨rfl, hb⟩; have HX := hid (H.out.below hb); have HW := hid (Wrote.of_below hb (OwnM ρ r mb vw)); clear hb)) | (go_at_call 34; go_must ((with_reducible refine (mstore _ _ HX.out).mono ?_); rintro e w2 ⟨rfl, hm, hw⟩; have HX2 := hid (HX.out.memd hm hw); have HW2 := hid (HW.out.trans (OwnM.mem hw)); clear hm hw; have c26 := HX2.out.px.facts.2.2.2.2.1.2.2.2.2.2.2.2; have f26 := HX2.out.px.facts.2.2.2.2.2.2 26)))
  go_ret
  have hp := HX2.out.put1 (x' := { x with phased := true }) HW2.out 26 (.bool true) rfl rfl rfl
  exact ⟨rfl, ρ, l, Gr.refl _ _, hp.1, hp.2⟩

set_option maxHeartbeats 4000000 in
set_option maxRecDepth 100000 in
theorem acc_13 (i : Nat) (h : PXM w ρ r b x l B mb vw s) : AccC w ρ r b x B mb vw s 13 i := by
  have H := hid h
  have HP := hid (tpphase_any h.px)
  clear h
  go_enter Try.func86, Try.ntmps86
  go_wp2_with (first | (go_at_call 127; go_must ((with_reducible refine HP.out.mono ?_); rintro e w1 ⟨rfl, hb⟩; have HX := hid (H.out.below hb); have HW := hid (Wrote.of_below hb (OwnM ρ r mb vw)); clear hb)) | (go_at_call 34; go_must ((with_reducible refine (mstore _ _ HX.out).mono ?_); rintro e w2 ⟨rfl, hm, hw⟩; have HX2 := hid (HX.out.memd hm hw); have HW2 := hid (HW.out.trans (OwnM.mem hw)); clear hm hw; have c26 := HX2.out.px.facts.2.2.2.2.1.2.2.2.2.2.2.2; have f26 := HX2.out.px.facts.2.2.2.2.2.2 26)))
  go_ret
  have hp := HX2.out.put1 (x' := { x with phased := false }) HW2.out 26 (.bool false) rfl rfl rfl
  exact ⟨rfl, ρ, l, Gr.refl _ _, hp.1, hp.2⟩

set_option maxHeartbeats 4000000 in
set_option maxRecDepth 100000 in
theorem acc_8 (i : Nat) (h : PXM w ρ r b x l B mb vw s) (hz : x.m.size ≤ (s.zs.length : Int)) : AccC w ρ r b x B mb vw s 8 i := by
  have HB := hid (bumpOn_any h hz)
  have HE := hid (show accP s x 8 i = bumpP s x from rfl)
  unfold AccC
  rw [HE.out]
  clear h HE
  go_enter Try.func86, Try.ntmps86
  go_wp2_with (go_at_call 125; go_must ((with_reducible refine HB.out.mono ?_); rintro e w1 ⟨rfl, hr⟩; have HR := hid hr; clear hr))
  go_ret
  exact ⟨rfl, HR.out⟩

end Go.Proofs.Ytjfinnjmcnjciaa

namespace Go.Proofs.Ytjfinnjmcnjciaa
open Go.RowKit
attribute [local go_sem] Later.cell Later.frozen

variable {w w' : World} {ρ : Nat → Nat} {r b : Nat} {x : PT} {l : PL} {B mb : Nat} {vw : Value} {s s' : MS}
theorem field_key (k v : Int) (W : World) : (Instr.field 51 (.agg #[.int .i64 k, .int .i64 v]) 0).run Try.prog W = .ok (.int .i64 k) W := by kernel_rfl
set_option maxHeartbeats 4000000 in
set_option maxRecDepth 100000 in
theorem acc_9 (i : Nat) (h : PXM w ρ r b x l B mb vw s) (hi : i < x.rs.length) : AccC w ρ r b x B mb vw s 9 i := by
  have H := hid h
  have c8 := h.px.facts.2.1.2.2.2.1
  have f8 := h.px.facts.2.2.2.2.2.2 8
  obtain ⟨⟨k, k2⟩, hp⟩ := word_at (ws := x.rs) (k := i) hi
  have HA := hid (show Calls Try.prog 110 #[.pointer (some ⟨l.rb, 0, none⟩), .int .i64 i] w (fun e w' => e = .returned (.agg #[.int .i64 k, .int .i64 k2]) ∧ Below w.heap.size w w') from RdAt_any i (k, k2) l.rb x.mr x.rs w h.px.ins.rd hp)
  have HE := hid (show accP s x 9 i = (spoiltP x (s.vAt (x.stripeP k)), x, s.loaded (x.stripeP k)) from by
    have : x.rs.getD i (0, 0) = (k, k2) := by rw [List.getD_eq_getElem?_getD, hp]; rfl
    show (spoiltP x (s.vAt (x.stripeP (x.rs.getD i (0, 0)).1)), x, s.loaded (x.stripeP (x.rs.getD i (0, 0)).1)) = _
    rw [this])
  have hfd := field_key k k2
  unfold AccC
  rw [HE.out]
  clear h hp HE hi
  go_enter Try.func86, Try.ntmps86
  go_wp2_with (first | (go_at_call 110; go_must ((with_reducible refine HA.out.mono ?_); rintro e w1 ⟨rfl, hb⟩; have HX := hid (H.out.below hb); have HW := hid (Wrote.of_below hb (OwnM ρ r mb vw)); clear hb)) | (go_at_call 120; go_must ((with_reducible refine (look_any' k HX.out).mono ?_); rintro e w2 ⟨rfl, hm, hw⟩; have HX2 := hid (HX.out.memd hm hw); have HW2 := hid (HW.out.trans (OwnM.mem hw)); clear hm hw)) | (go_at_call 126; go_must ((with_reducible refine (spoilt_any _ HX2.out.px).mono ?_); rintro e w3 ⟨rfl, hb⟩; have HX3 := hid (HX2.out.below hb); have HW3 := hid (HW2.out.trans (Wrote.of_below hb _)); clear hb)))
  go_ret
  exact ⟨rfl, ρ, l, Gr.refl _ _, HX3.out, HW3.out⟩

set_option maxHeartbeats 4000000 in
set_option maxRecDepth 100000 in
theorem acc_10 (i : Nat) (h : PXM w ρ r b x l B mb vw s) (hi : i < x.ws.length) : AccC w ρ r b x B mb vw s 10 i := by
  have H := hid h
  have c9 := h.px.facts.2.1.2.2.2.2.1
  have f9 := h.px.facts.2.2.2.2.2.2 9
  have HL := hid (List_any l.wb x.mw x.ws x.asked w h.px.ins.wr)
  obtain ⟨⟨p1, p2⟩, hp⟩ := word_at (ws := x.ws) (k := i) hi
  have HP := hid hp
  have HE := hid (show accP s x 10 i = (0, x, s.stored p1 p2) from by
    have : x.ws.getD i (0, 0) = (p1, p2) := by rw [List.getD_eq_getElem?_getD, hp]; rfl
    show (0, x, s.stored (x.ws.getD i (0, 0)).1 (x.ws.getD i (0, 0)).2) = _
    rw [this])
  have n1 : (0 : Int) ≤ (i : Int) := by omega
  have n2 : (i : Int) < (x.ws.length : Int) := by omega
  have HI := hid hi
  unfold AccC
  rw [HE.out]
  clear h hp HE hi
  go_enter Try.func86, Try.ntmps86
  go_wp2_with (first | (go_at_call 65; go_must ((with_reducible refine HL.out.mono ?_); rintro e w1 ⟨v1, rfl, hl1, hb1⟩; obtain ⟨a1, n1, rfl, hrow1⟩ := hl1.form; obtain ⟨g, off, rfl, hg, hcs⟩ := hrow1.at (Nat.lt_of_le_of_lt (Nat.zero_le _) HI.out); obtain ⟨q0, q1⟩ := hcs i _ HP.out; have HX := hid ((H.out.below hb1).below (bnew (bid _) (.cells #[.int .i64 p1, .int .i64 p2] 51))); have HW := hid (Wrote.of_below (bnew hb1 (.cells #[.int .i64 p1, .int .i64 p2] 51)) (OwnM ρ r mb vw)); clear hl1 hb1 hrow1 hcs)) | (go_at_call 34; go_must ((with_reducible refine (mstore _ _ HX.out).mono ?_); rintro e w2 ⟨rfl, hm, hw⟩; have HX2 := hid (HX.out.memd hm hw); have HW2 := hid (HW.out.trans (OwnM.mem hw)); clear hm hw)))
  go_ret
  exact ⟨rfl, ρ, l, Gr.refl _ _, HX2.out, HW2.out⟩

/-- A stripe of what is to be written. -/
theorem PX.rowAt (h : PX w ρ r b x l) {i : Nat} (hi : i < x.rows.length) : ∃ g n, l.va = .slice (some ⟨g, 0, none⟩) x.rows.length n ∧ g < w.heap.size ∧ w.cell? ⟨g, i, none⟩ = some (.int .i64 (x.rows.getD i 0)) ∧ w.frozen? ⟨g, i, none⟩ = false := by
  have hl := h.ins.rows
  obtain ⟨a, n, hv, hg, _⟩ := hl.form
  obtain ⟨g, rfl⟩ := hg (by omega)
  rw [hv] at hl
  exact ⟨g, n, hv, World.block_lt_of_cell? w _ (hl.at hi).1, (hl.at hi).1, (hl.at hi).2⟩
theorem PX.oldAt (h : PX w ρ r b x l) {i : Nat} (hi : i < x.old.length) : ∃ g n, l.vo = .slice (some ⟨g, 0, none⟩) x.old.length n ∧ g < w.heap.size ∧ w.cell? ⟨g, i, none⟩ = some (.int .i64 (x.old.getD i 0)) ∧ w.frozen? ⟨g, i, none⟩ = false := by
  have hl := h.ins.old
  obtain ⟨a, n, hv, hg, _⟩ := hl.form
  obtain ⟨g, rfl⟩ := hg (by omega)
  rw [hv] at hl
  exact ⟨g, n, hv, World.block_lt_of_cell? w _ (hl.at hi).1, (hl.at hi).1, (hl.at hi).2⟩

set_option maxHeartbeats 4000000 in
set_option maxRecDepth 100000 in
theorem acc_11 (i : Nat) (h : PXM w ρ r b x l B mb vw s) (hi : i < x.rows.length) : AccC w ρ r b x B mb vw s 11 i := by
  have H := hid h
  have hlt := h.px.lt
  have c24 := h.px.facts.2.2.2.2.1.2.2.2.2.2.1
  have f24 := h.px.facts.2.2.2.2.2.2 24
  have c15 := h.px.facts.2.2.1.2.2.2.2.1
  have f15 := h.px.facts.2.2.2.2.2.2 15
  obtain ⟨g, n, hv, hg, q0, q1⟩ := h.px.rowAt hi
  rw [hv] at c24
  have HE := hid (show accP s x 11 i = (0, x, s.stored (x.stripeP (x.rows.getD i 0)) (freeF x.made)) from rfl)
  have n1 : (0 : Int) ≤ (i : Int) := by omega
  have n2 : (i : Int) < (x.rows.length : Int) := by omega
  unfold AccC
  rw [HE.out]
  clear HE hi hv
  generalize x.rows.getD i 0 = row at *
  have HS := hid (fun (y : Later w) => stripeAt_any row (h.px.below y.below))
  have HF := hid (fun U => Free_any x.made U)
  clear h
  generalize x.rows.length = m at c24 n2
  go_enter Try.func86, Try.ntmps86
  go_wp2_with fail
  refine wp_region_later_tail 15 (by kernel_rfl) (by kernel_rfl) ?_
  simp only [List.take_succ_cons, List.take_zero, List.drop_succ_cons, List.drop_zero]
  repeat (go_big_quiet_step (first | (go_at_call 123; with_reducible exact later_call (HS.out _)) | (go_at_call 128; with_reducible exact later_same (HF.out _))))
  refine wpQuiet_nil ?_
  rintro _ ⟨y, rfl⟩
  have HX := hid (H.out.below y.below)
  have HW := hid (Wrote.of_below y.below (OwnM ρ r mb vw))
  go_wp2_with (go_at_call 34; go_must ((with_reducible refine (mstore _ _ HX.out).mono ?_); rintro e w2 ⟨rfl, hm, hw⟩; have HX2 := hid (HX.out.memd hm hw); have HW2 := hid (HW.out.trans (OwnM.mem hw)); clear hm hw))
  go_ret
  exact ⟨rfl, ρ, l, Gr.refl _ _, HX2.out, HW2.out⟩

set_option maxHeartbeats 4000000 in
set_option maxRecDepth 100000 in
theorem acc_12 (i : Nat) (h : PXM w ρ r b x l B mb vw s) (hi : i < x.rows.length) (ho : i < x.old.length) : AccC w ρ r b x B mb vw s 12 i := by
  have H := hid h
  have hlt := h.px.lt
  have c24 := h.px.facts.2.2.2.2.1.2.2.2.2.2.1
  have f24 := h.px.facts.2.2.2.2.2.2 24
  have c25 := h.px.facts.2.2.2.2.1.2.2.2.2.2.2.1
  have f25 := h.px.facts.2.2.2.2.2.2 25
  obtain ⟨g, n, hv, hg, q0, q1⟩ := h.px.rowAt hi
  obtain ⟨g2, n2', hv2, hg2, p0, p1⟩ := h.px.oldAt ho
  rw [hv] at c24
  rw [hv2] at c25
  have HE := hid (show accP s x 12 i = (0, x, s.stored (x.stripeP (x.rows.getD i 0)) (x.old.getD i 0)) from rfl)
  have n1 : (0 : Int) ≤ (i : Int) := by omega
  have n2 : (i : Int) < (x.rows.length : Int) := by omega
  have n3 : (i : Int) < (x.old.length : Int) := by omega
  unfold AccC
  rw [HE.out]
  clear HE hi ho hv hv2
  generalize x.rows.getD i 0 = row at *
  generalize x.old.getD i 0 = ov at *
  have HS := hid (fun (y : Later w) => stripeAt_any row (h.px.below y.below))
  clear h
  generalize x.rows.length = m at c24 n2
  generalize x.old.length = m2 at c25 n3
  go_enter Try.func86, Try.ntmps86
  go_wp2_with fail
  refine wp_region_later_tail 17 (by kernel_rfl) (by kernel_rfl) ?_
  simp only [List.take_succ_cons, List.take_zero, List.drop_succ_cons, List.drop_zero]
  repeat (go_big_quiet_step ((go_at_call 123; with_reducible exact later_call (HS.out _))))
  refine wpQuiet_nil ?_
  rintro _ ⟨y, rfl⟩
  have HX := hid (H.out.below y.below)
  have HW := hid (Wrote.of_below y.below (OwnM ρ r mb vw))
  go_wp2_with (go_at_call 34; go_must ((with_reducible refine (mstore _ _ HX.out).mono ?_); rintro e w2 ⟨rfl, hm, hw⟩; have HX2 := hid (HX.out.memd hm hw); have HW2 := hid (HW.out.trans (OwnM.mem hw)); clear hm hw))
  go_ret
  exact ⟨rfl, ρ, l, Gr.refl _ _, HX2.out, HW2.out⟩

/-- What a stripe's two accesses come to, by whether it was looked at. -/
theorem acc_7_eq (s : MS) (x : PT) (i : Nat) : accP s x 7 i = takeP s x (x.rows.getD (i / 2) 0) (decide (i % 2 = 1)) := by
  show (if i % 2 = 1 then _ else _) = _
  unfold takeP
  by_cases h : i % 2 = 1
  · rw [if_pos h, decide_eq_true h, if_pos rfl]
  · rw [if_neg h, decide_eq_false h, if_neg Bool.false_ne_true]
set_option maxHeartbeats 4000000 in
set_option maxRecDepth 100000 in
theorem acc_7 (i : Nat) (h : PXM w ρ r b x l B mb vw s) (hi : i < 2 * x.rows.length) (ho : i % 2 = 1 → x.old.length < 16 ∧ I64 x.saw) : AccC w ρ r b x B mb vw s 7 i := by
  have c24 := h.px.facts.2.2.2.2.1.2.2.2.2.2.1
  have f24 := h.px.facts.2.2.2.2.2.2 24
  have hr16 := h.px.ins.rowl
  obtain ⟨j, seen, t, hj, hjl, hds, htd, htm, htw, hts⟩ : ∃ (j : Nat) (seen : Bool) (t : Int), i / 2 = j ∧ j < x.rows.length ∧ decide (i % 2 = 1) = seen ∧ (i : Int).tdiv 2 = (j : Int) ∧ (i : Int).tmod 2 = t ∧ wrap64 t = t ∧ (t == 1) = seen := by
    refine ⟨i / 2, _, (i : Int) % 2, rfl, by omega, rfl, ?_, ?_, by unfold wrap64; omega, ?_⟩
    · exact Int.tdiv_eq_ediv_of_nonneg (by omega)
    · exact Int.tmod_eq_emod_of_nonneg (by omega)
    · rw [Bool.eq_iff_iff]; simp; omega
  have hi100 : i < 100 := by omega
  obtain ⟨g, n, hv, hg, q0, q1⟩ := h.px.rowAt hjl
  rw [hv] at c24
  have HE := hid ((acc_7_eq s x i).trans (by rw [hj, hds]))
  have HT := hid (show Calls Try.prog 124 #[.pointer (some ⟨b, 0, none⟩), .pointer (some ⟨mb, 0, none⟩), .int .i64 (x.rows.getD j 0), .bool seen] w (AcRet w ρ r b B mb vw (takeP s x (x.rows.getD j 0) seen)) from by
    cases seen with
    | false => exact take_look _ h
    | true => exact take_swap _ h (ho (by simpa using hds)).1 (ho (by simpa using hds)).2)
  have n1 : (0 : Int) ≤ (j : Int) := by omega
  have n2 : (j : Int) < (x.rows.length : Int) := by omega
  have n3 : (0 : Int) ≤ (i : Int) := by omega
  have n4 : (i : Int) < 100 := by omega
  have hw1 : wrap64 (j : Int) = (j : Int) := by unfold wrap64; omega
  unfold AccC
  rw [HE.out]
  clear HE hi ho hv h hj hjl hds hr16
  generalize takeP s x (x.rows.getD j 0) seen = out at *
  generalize x.rows.getD j 0 = row at *
  generalize x.rows.length = m at c24 n2
  go_enter Try.func86, Try.ntmps86
  go_wp2_with (go_at_call 124; go_must ((with_reducible refine HT.out.mono ?_); rintro e w1 ⟨rfl, hr⟩; have HR := hid hr; clear hr))
  go_ret
  exact ⟨rfl, HR.out⟩

end Go.Proofs.Ytjfinnjmcnjciaa
