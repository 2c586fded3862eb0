/-
  ClockAsks: each step of any bump is what the document says.
-/
import Derived.Test.YtkfajeimfpbfdaaClkW
namespace Go.Proofs.Ytkfajeimfpbfdaa
open Go.RowKit
attribute [local go_sem] Later.cell Later.frozen

section
variable {w : World} {q b : Nat} {vw : Value} {c : Nat} {vr : Value} {s t s' t' : MS} {a : Nat} {g h : BD} {W W' : World}
theorem WtAt.two (k : WtAt w q b vw c vr s t a g W) (hm : Ref W' w.heap.size c vr t') (hw : Wrote (MemS c vr) W W') : WtAt w q b vw c vr s t' a g W' := ⟨k.fr.two hm hw, k.bx.two hw⟩
theorem WtAt.put (k : WtAt w q b vw c vr s t a g W) (n : Nat) (y : Value) (he : h.cells = g.cells.setIfInBounds n y) : WtAt w q b vw c vr s t a h (W.setCell ⟨a, n, none⟩ y) := by
  have hw : Wrote (fun j => j = a) W (W.setCell ⟨a, n, none⟩ y) := (Wrote.refl (fun j => j = a) W).setCell (p := ⟨a, n, none⟩) (fun _ => rfl) _
  refine ⟨k.fr.box hw k.bx.a0 k.bx.ne k.bx.fr, ?_, k.bx.ne, k.bx.fr, k.bx.a0⟩
  unfold BumpAt
  rw [he]
  exact blk_setCell k.bx.at_ n y
/-- Something else of one's own is written. -/
theorem WtAt.away {x : Nat} (k : WtAt w q b vw c vr s t a g W) (hw : Wrote (fun j => j = x) W W') (h0 : w.heap.size ≤ x) (hq : x ≠ q) (hp : ¬ PairS b vw c vr x) (ha : x ≠ a) : WtAt w q b vw c vr s t a g W' := ⟨k.fr.box hw h0 hq hp, k.bx.kept hw fun e => ha e.symm⟩
end
/-- Behind the step: the argument's box, the answer's, perhaps the document's answer's. -/
structure Mk (w : World) (q b : Nat) (vw : Value) (c : Nat) (vr : Value) (s t : MS) (a : Nat) (h : BD) (qa : Nat) (g : BD) (o : Option Nat) (W : World) : Prop where
  wt : WtAt w q b vw c vr s t a h W
  ba : Bx 23 w q b vw c vr qa g W
  ne : a ≠ qa
  own : OwnB 36 w q b vw c vr W o
  no : ∀ x, o = some x → x ≠ a ∧ x ≠ qa
section
variable {w : World} {q b : Nat} {vw : Value} {c : Nat} {vr : Value} {s t s' t' : MS} {a qa : Nat} {g h : BD} {o : Option Nat} {W W' : World}
theorem Mk.later (k : Mk w q b vw c vr s t a h qa g o W) (hb : Below W.heap.size W W') : Mk w q b vw c vr s t a h qa g o W' := ⟨k.wt.later hb, k.ba.later hb, k.ne, k.own.later hb, k.no⟩
theorem Mk.two (k : Mk w q b vw c vr s t a h qa g o W) (hm : Ref W' w.heap.size c vr t') (hw : Wrote (MemS c vr) W W') : Mk w q b vw c vr s t' a h qa g o W' := ⟨k.wt.two hm hw, k.ba.two hw, k.ne, k.own.kept hw fun _ h => .inr h, k.no⟩
theorem Mk.new (k : Mk w q b vw c vr s t a h qa g none W) : Mk w q b vw c vr s t a h qa g (some W.heap.size) (W.alloc (.cells b0.cells 36)) :=
  ⟨k.wt.later (bnew (bid W) _), k.ba.later (bnew (bid W) _), k.ne, Bx.new _ k.wt.fr b0, fun x hx => by
    have l1 := k.wt.bx.at_.lt
    have l2 := k.ba.at_.lt
    cases hx
    omega⟩
/-- All three stand. -/
structure Ek (w : World) (q b : Nat) (vw : Value) (c : Nat) (vr : Value) (s t : MS) (a : Nat) (h : BD) (qa : Nat) (g : BD) (qb : Nat) (g' : BD) (W : World) : Prop where
  wt : WtAt w q b vw c vr s t a h W
  ba : Bx 23 w q b vw c vr qa g W
  bb : Bx 36 w q b vw c vr qb g' W
theorem Mk.fin {qb : Nat} {g' : BD} (k : Mk w q b vw c vr s t a h qa g (some qb) W) : Ek w q b vw c vr s t a h qa g qb g' ((((W.setCell ⟨qb, 0, none⟩ (.int .i64 g'.k)).setCell ⟨qb, 1, none⟩ (.int .i64 g'.s)).setCell ⟨qb, 2, none⟩ (.int .i64 g'.x)).setCell ⟨qb, 3, none⟩ (.int .i64 g'.p)) := by
  have hw := wrote4 W qb (.int .i64 g'.k) (.int .i64 g'.s) (.int .i64 g'.x) (.int .i64 g'.p)
  have hb : Bx 36 w q b vw c vr qb b0 W := k.own
  obtain ⟨n1, n2⟩ := k.no qb rfl
  exact ⟨k.wt.away hw hb.a0 hb.ne hb.fr n1, k.ba.kept hw fun e => n2 e.symm, hb.set g'⟩
theorem Ek.later {qb : Nat} {g' : BD} (k : Ek w q b vw c vr s t a h qa g qb g' W) (hb : Below W.heap.size W W') : Ek w q b vw c vr s t a h qa g qb g' W' := ⟨k.wt.later hb, k.ba.later hb, k.bb.later hb⟩
end

set_option maxRecDepth 100000 in
set_option maxHeartbeats 8000000 in
theorem casks_any (x0 x1 : Int) (h : BD) (near : Bool) (x4 x5 : Int) (w : World) : Calls Try.prog 3 #[.int .i64 x0, .int .i64 x1, h.v, .bool near, .int .i64 x4, .int .i64 x5] w fun e w' => e = .returned (.bool true) ∧ Below w.heap.size w w' := by
  have HBO := hid (fun (x : World) => (show Calls Try.prog 8 #[mp4.v] x (MadeBoth 48 x) from by have := Both_any mp4 x mp4_ok; rwa [mp4_size] at this))
  obtain ⟨hk, hs, hx, hp⟩ := h
  show Calls _ _ #[_, _, .agg #[.int .i64 hk, .int .i64 hs, .int .i64 hx, .int .i64 hp], _, _, _] _ _
  go_enter Try.func3, Try.ntmps3
  go_upto_region 2 with (go_at_call 7; (with_reducible refine (Map_any _).mono ?_); rintro e w1 ⟨rfl, hb1⟩; have HB1 := hid hb1; clear hb1)
  have HX := hid (show BumpAt 23 (w1.alloc (.cells mp4.cells 25)) w.heap.size ⟨hk, hs, hx, hp⟩ ∧ MapAt 25 (w1.alloc (.cells mp4.cells 25)) w1.heap.size mp4 ∧ w.heap.size < w1.heap.size ∧ Below w.heap.size w (w1.alloc (.cells mp4.cells 25)) from by
    have h1 := BumpAt.new 23 w ⟨hk, hs, hx, hp⟩
    have hb1 := bnew HB1.out (.cells mp4.cells 25)
    have hsz := HB1.out.size
    refine ⟨h1.below hb1, MapAt.new _ w1 mp4, ?_, bthen (bnew (bid w) _) hb1⟩
    simp at hsz
    omega)
  refine wp_rename (fun W => BumpAt 23 W w.heap.size ⟨hk, hs, hx, hp⟩ ∧ MapAt 25 W w1.heap.size mp4 ∧ w.heap.size < w1.heap.size ∧ Below w.heap.size w W) HX.out ?_
  generalize w1.heap.size = q
  clear HX HB1
  rintro W ⟨hbx, hmp, hq, hbl⟩
  have HW3 := hid (And.intro hbx (And.intro hmp (And.intro hq hbl)))
  obtain ⟨m0, m1, m2, m3, m4, _⟩ := hmp.facts
  clear hbx hmp hbl hq
  go_upto_region 5 with (go_at_call 8; (with_reducible refine (HBO.out _).mono ?_); rintro e w2 ⟨b, vw, c, vr, rfl, hp, hb2⟩; have HP := hid hp; have HB2 := hid hb2; clear hp hb2)
  generalize hqa : w.heap.size = a0 at *
  have HA0 := hid hqa
  refine wp_rename (fun W' => WtAt w q b vw c vr (MS.new (zrow 48)) (MS.new (zrow 48)) a0 ⟨hk, hs, hx, hp⟩ W') (by
    obtain ⟨hbx, hmp, hq, hbl⟩ := HW3.out
    have e := HA0.out
    refine ⟨Fr.start hmp (by omega) (by rw [e]; exact hbl) HP.out HB2.out, hbx.below HB2.out, by omega, fun hj => ?_, by omega⟩
    exact HP.out.old a0 hbx.lt hj) ?_
  clear HW3 HP HB2 HBO m0 m1 m2 m3 m4 hqa
  intro W3 hk3
  have HK := hid hk3
  obtain ⟨e0, e1, e2, e3, ef⟩ := hk3.bx.at_.facts
  clear hk3
  generalize hz0 : MS.new (zrow 48) = z0 at *
  have HZ0 := hid (show z0.zs.length = 48 from by rw [← hz0]; exact zrow_len 48)
  clear hz0
  go_upto_if 26 with fail
  go_cut [4, 5] (fun v4 v5 W => (∃ y4 : Int, v4 = .int .i64 y4) ∧ (∃ y5 : Int, v5 = .int .i64 y5) ∧ ∃ h1 : BD, WtAt w q b vw c vr z0 z0 a0 h1 W)
  case first =>
    cases near
    · go_wp2_with fail
      go_meet
      case rel => exact ⟨⟨_, rfl⟩, ⟨_, rfl⟩, _, HK.out⟩
    · go_upto_region 7 with fail
      refine wp_rename (fun W => WtAt w q b vw c vr z0 z0 a0 ⟨wrap64 ((IntKind.u64.wrap hk).tmod 5), wrap64 ((IntKind.u64.wrap hs).tmod 3), wrap64 (x0 + wrap64 ((IntKind.u64.wrap hx).tmod 2)), hp⟩ W) (((HK.out.put (h := ⟨wrap64 ((IntKind.u64.wrap hk).tmod 5), hs, hx, hp⟩) 0 (.int .i64 (wrap64 ((IntKind.u64.wrap hk).tmod 5))) rfl).put (h := ⟨wrap64 ((IntKind.u64.wrap hk).tmod 5), wrap64 ((IntKind.u64.wrap hs).tmod 3), hx, hp⟩) 1 (.int .i64 (wrap64 ((IntKind.u64.wrap hs).tmod 3))) rfl).put (h := ⟨wrap64 ((IntKind.u64.wrap hk).tmod 5), wrap64 ((IntKind.u64.wrap hs).tmod 3), wrap64 (x0 + wrap64 ((IntKind.u64.wrap hx).tmod 2)), hp⟩) 2 (.int .i64 (wrap64 (x0 + wrap64 ((IntKind.u64.wrap hx).tmod 2)))) rfl) ?_
      clear HK e0 e1 e2 e3 ef
      intro W4 hk4
      have HK := hid hk4
      obtain ⟨e0, e1, e2, e3, ef⟩ := hk4.bx.at_.facts
      clear hk4
      generalize wrap64 ((IntKind.u64.wrap hk).tmod 5) = gk at *
      generalize wrap64 (x0 + wrap64 ((IntKind.u64.wrap hx).tmod 2)) = gx at *
      generalize wrap64 ((IntKind.u64.wrap hs).tmod 3) = gs at *
      by_cases h3 : gk = 3
      · subst h3
        go_wp2_with fail
        go_meet
        case rel => exact ⟨⟨_, rfl⟩, ⟨_, rfl⟩, _, HK.out.put (h := ⟨3, gs, wrap64 (x1 + wrap64 ((IntKind.u64.wrap gx).tmod 2)), hp⟩) 2 (.int .i64 (wrap64 (x1 + wrap64 ((IntKind.u64.wrap gx).tmod 2)))) rfl⟩
      · go_wp2_with fail
        go_meet
        case rel => exact ⟨⟨_, rfl⟩, ⟨_, rfl⟩, _, HK.out⟩
  case rest =>
    clear HK e0 e1 e2 e3 ef
    obtain ⟨⟨y4, rfl⟩, ⟨y5, rfl⟩, h1, hk1⟩ := hcut
    have HK := hid hk1
    obtain ⟨m0, m1, m2, m3, m4, _⟩ := hk1.fr.map.facts
    clear hk1
    have HCK := hid (fun (x : World) => (show Calls Try.prog 10 #[mp4.v] x fun e w' => e = .returned (.int .i64 0) ∧ Below x.heap.size x w' from by have := Clock_any mp4 x; rwa [clock0] at this))
    have HSQ := hid (fun (x : World) => (show Calls Try.prog 12 #[mp4.v] x fun e w' => e = .returned (.int .i64 1) ∧ Below x.heap.size x w' from by have := Seq_any mp4 x; rwa [seq1] at this))
    -- the four stores
    go_upto_region 11 with (first | (go_at_call 10; (with_reducible refine (HCK.out _).mono ?_); rintro e w4 ⟨rfl, hb4⟩; have HK := hid (HK.out.later hb4); clear hb4) | (go_at_call 9; (with_reducible refine (Store_at 0 x0 _ _ b vw z0 HK.out.fr.mem).mono ?_); rintro e w5 ⟨rfl, hm5, hw5⟩; have HK := hid (HK.out.one hm5 hw5); clear hm5 hw5))
    go_upto_region 12 with (go_at_call 11; (with_reducible refine (rStore_at 0 x0 _ _ c vr z0 HK.out.fr.ref).mono ?_); rintro e w6 ⟨rfl, hm6, hw6⟩; have HK := hid (HK.out.two hm6 hw6); clear hm6 hw6)
    have HZ1 := hid (show (z0.stored 0 x0).zs.length = 48 from by rw [len_stored]; exact HZ0.out)
    generalize hz1 : z0.stored 0 x0 = z1 at *
    clear hz1 m0 m1 m2 m3 m4
    obtain ⟨m0, m1, m2, m3, m4, _⟩ := HK.out.fr.map.facts
    go_upto_region 13 with (first | (go_at_call 12; (with_reducible refine (HSQ.out _).mono ?_); rintro e w7 ⟨rfl, hb7⟩; have HK := hid (HK.out.later hb7); clear hb7) | (go_at_call 9; (with_reducible refine (Store_at 1 x1 _ _ b vw z1 HK.out.fr.mem).mono ?_); rintro e w8 ⟨rfl, hm8, hw8⟩; have HK := hid (HK.out.one hm8 hw8); clear hm8 hw8))
    go_upto_region 14 with (go_at_call 11; (with_reducible refine (rStore_at 1 x1 _ _ c vr z1 HK.out.fr.ref).mono ?_); rintro e w9 ⟨rfl, hm9, hw9⟩; have HK := hid (HK.out.two hm9 hw9); clear hm9 hw9)
    have HZ2 := hid (show (z1.stored 1 x1).zs.length = 48 from by rw [len_stored]; exact HZ1.out)
    generalize hz2 : z1.stored 1 x1 = z2 at *
    clear hz2 m0 m1 m2 m3 m4 HCK HSQ
    have HSTP := hid (fun (x : World) (hm : Mem x w.heap.size b vw z2) => (show Calls Try.prog 13 #[mp4.v, .pointer (some ⟨b, 0, none⟩), h1.v] x (BumpRet 62 2 (bumpF mp4 z2 h1).1 (bumpF mp4 z2 h1).2 w.heap.size b vw x) from
      Step_any mp4 h1 x _ b vw z2 hm (by rw [mp4_size, HZ2.out]; decide)))
    have HRS := hid (fun (x : World) (hm : Ref x w.heap.size c vr z2) => (show Calls Try.prog 14 #[mp4.v, .pointer (some ⟨c, 0, none⟩), h1.v] x (BumpRet 68 2 (bumpF mp4 z2 h1).1 (bumpF mp4 z2 h1).2 w.heap.size c vr x) from
      StepBump_any mp4 h1 x _ c vr z2 hm))
    have HL3 := hid (show (bumpF mp4 z2 h1).2.zs.length = 48 from by rw [len_bumpF]; exact HZ2.out)
    generalize (bumpF mp4 z2 h1).2 = z3 at *
    generalize (bumpF mp4 z2 h1).1 = g at *
    obtain ⟨gk, gs, gx, gp⟩ := g
    obtain ⟨hk', hs', hx', hp'⟩ := h1
    clear HZ0 HZ1 HZ2
    refine wp_rename (fun W' => WtAt w q b vw c vr z2 z2 a0 ⟨hk', hs', hx', hp'⟩ W') HK.out ?_
    clear HK
    intro W5 hk5
    have HK := hid hk5
    obtain ⟨m0, m1, m2, m3, m4, _⟩ := hk5.fr.map.facts
    obtain ⟨e0, e1, e2, e3, ef⟩ := hk5.bx.at_.facts
    clear hk5
    go_upto_region 15 with (go_at_call 13; (with_reducible refine (HSTP.out _ HK.out.fr.mem).mono ?_); rintro e w6 ⟨rfl, hm6, hw6⟩; have HK6 := hid (HK.out.one hm6 hw6); clear hm6 hw6)
    refine wp_rename (fun W' => Mk w q b vw c vr z3 z2 a0 ⟨hk', hs', hx', hp'⟩ w6.heap.size ⟨gk, gs, gx, gp⟩ none W') ⟨HK6.out.later (bnew (bid _) _), Bx.new _ HK6.out.fr ⟨gk, gs, gx, gp⟩, by have := HK6.out.bx.at_.lt; omega, trivial, fun x hx => by cases hx⟩ ?_
    generalize w6.heap.size = qa
    clear HK6 HK HSTP m0 m1 m2 m3 m4 e0 e1 e2 e3 ef
    intro W7 hk7
    have HK := hid hk7
    clear hk7
    go_cut [17] (fun v W => ∃ qb, v = .pointer (some ⟨qb, 0, none⟩) ∧ Ek w q b vw c vr z3 z3 a0 ⟨hk', hs', hx', hp'⟩ qa ⟨gk, gs, gx, gp⟩ qb ⟨gk, gs, gx, gp⟩ W)
    case first =>
      apply with_tail1 (R := fun ga Z => Mk w q b vw c vr z3 z3 a0 ⟨hk', hs', hx', hp'⟩ qa ⟨gk, gs, gx, gp⟩ (some ga) Z)
      case h1 =>
        intro tail
        have hS := (HK.out.later (bdrew (bid _))).wt.cells
        refine wp_region_noPanic ?_
        refine wp_region_held_drew (S := (fun w' => w'.cell? ⟨q, 0, none⟩ = some (.int .i64 2) ∧ w'.cell? ⟨q, 1, none⟩ = some (.int .i64 2) ∧ w'.cell? ⟨q, 2, none⟩ = some (.int .i64 4) ∧ w'.cell? ⟨q, 3, none⟩ = some (.int .i64 0) ∧ w'.cell? ⟨q, 4, none⟩ = some (.int .i64 2) ∧ w'.cell? ⟨a0, 0, none⟩ = some (.int .i64 hk') ∧ w'.cell? ⟨a0, 1, none⟩ = some (.int .i64 hs') ∧ w'.cell? ⟨a0, 2, none⟩ = some (.int .i64 hx') ∧ w'.cell? ⟨a0, 3, none⟩ = some (.int .i64 hp'))) (by kernel_rfl) hS (fun hHeld => ?_)
        clear hS
        refine wpAnyH_take (i := 0) (v := ?_) rfl (by kernel_rfl) (by kernel_rfl) (by kernel_rfl) (fun _ _ _ h => h) (Or.inl ⟨by rfl, ?_⟩) (by assumption) ?_
        rotate_left
        · (intro w' hSw; (try dsimp only at hSw); go_simp; try (with_reducible rfl))
        (try simp only [Act.put, List.getElem_toArray, List.getElem_cons_zero, List.getElem_cons_succ, List.setIfInBounds_toArray, List.set_cons_zero, List.set_cons_succ])
        refine wpAnyH_take (i := 2) (v := ?_) rfl (by kernel_rfl) (by kernel_rfl) (by kernel_rfl) (fun _ _ _ h => h) (Or.inl ⟨by rfl, ?_⟩) (by assumption) ?_
        rotate_left
        · (intro w' hSw; (try dsimp only at hSw); go_simp; try (with_reducible rfl))
        (try simp only [Act.put, List.getElem_toArray, List.getElem_cons_zero, List.getElem_cons_succ, List.setIfInBounds_toArray, List.set_cons_zero, List.set_cons_succ])
        refine wpAnyH_take (i := 3) (v := ?_) rfl (by kernel_rfl) (by kernel_rfl) (by kernel_rfl) (fun _ _ _ h => h) (Or.inl ⟨by rfl, ?_⟩) (by assumption) ?_
        rotate_left
        · (intro w' hSw; (try dsimp only at hSw); go_simp; try (with_reducible rfl))
        (try simp only [Act.put, List.getElem_toArray, List.getElem_cons_zero, List.getElem_cons_succ, List.setIfInBounds_toArray, List.set_cons_zero, List.set_cons_succ])
        refine wpAnyH_take (i := 4) (v := ?_) rfl (by kernel_rfl) (by kernel_rfl) (by kernel_rfl) (fun _ _ _ h => h) (Or.inl ⟨by rfl, ?_⟩) (by assumption) ?_
        rotate_left
        · (intro w' hSw; (try dsimp only at hSw); go_simp; try (with_reducible rfl))
        (try simp only [Act.put, List.getElem_toArray, List.getElem_cons_zero, List.getElem_cons_succ, List.setIfInBounds_toArray, List.set_cons_zero, List.set_cons_succ])
        refine wpAnyH_take (i := 5) (v := ?_) rfl (by kernel_rfl) (by kernel_rfl) (by kernel_rfl) (fun _ _ _ h => h) (Or.inl ⟨by rfl, ?_⟩) (by assumption) ?_
        rotate_left
        · (intro w' hSw; (try dsimp only at hSw); go_simp; try (with_reducible rfl))
        (try simp only [Act.put, List.getElem_toArray, List.getElem_cons_zero, List.getElem_cons_succ, List.setIfInBounds_toArray, List.set_cons_zero, List.set_cons_succ])
        refine wpAnyH_take (i := 6) (v := ?_) rfl (by kernel_rfl) (by kernel_rfl) (by kernel_rfl) (fun _ _ _ h => h) (Or.inl ⟨by rfl, ?_⟩) (by assumption) ?_
        rotate_left
        · (intro w' hSw; (try dsimp only at hSw); go_simp; try (with_reducible rfl))
        (try simp only [Act.put, List.getElem_toArray, List.getElem_cons_zero, List.getElem_cons_succ, List.setIfInBounds_toArray, List.set_cons_zero, List.set_cons_succ])
        refine wpAnyH_take (i := 7) (v := ?_) rfl (by kernel_rfl) (by kernel_rfl) (by kernel_rfl) (fun _ _ _ h => h) (Or.inl ⟨by rfl, ?_⟩) (by assumption) ?_
        rotate_left
        · (intro w' hSw; (try dsimp only at hSw); go_simp; try (with_reducible rfl))
        (try simp only [Act.put, List.getElem_toArray, List.getElem_cons_zero, List.getElem_cons_succ, List.setIfInBounds_toArray, List.set_cons_zero, List.set_cons_succ])
        refine wpAnyH_take (i := 8) (v := ?_) rfl (by kernel_rfl) (by kernel_rfl) (by kernel_rfl) (fun _ _ _ h => h) (Or.inl ⟨by rfl, ?_⟩) (by assumption) ?_
        rotate_left
        · (intro w' hSw; (try dsimp only at hSw); go_simp; try (with_reducible rfl))
        (try simp only [Act.put, List.getElem_toArray, List.getElem_cons_zero, List.getElem_cons_succ, List.setIfInBounds_toArray, List.set_cons_zero, List.set_cons_succ])
        refine wpAnyH_take (i := 9) (v := ?_) rfl (by kernel_rfl) (by kernel_rfl) (by kernel_rfl) (fun _ _ _ h => h) (Or.inl ⟨by rfl, ?_⟩) (by assumption) ?_
        rotate_left
        · (intro w' hSw; (try dsimp only at hSw); go_simp; try (with_reducible rfl))
        (try simp only [Act.put, List.getElem_toArray, List.getElem_cons_zero, List.getElem_cons_succ, List.setIfInBounds_toArray, List.set_cons_zero, List.set_cons_succ])
        refine wpAnyH_take (i := 10) (v := ?_) rfl (by kernel_rfl) (by kernel_rfl) (by kernel_rfl) (fun _ _ _ h => h) (Or.inl ⟨by rfl, ?_⟩) (by assumption) ?_
        rotate_left
        · (intro w' hSw; (try dsimp only at hSw); go_simp; try (with_reducible rfl))
        (try simp only [Act.put, List.getElem_toArray, List.getElem_cons_zero, List.getElem_cons_succ, List.setIfInBounds_toArray, List.set_cons_zero, List.set_cons_succ])
        refine wpAnyH_take (i := 11) (v := ?_) rfl (by kernel_rfl) (by kernel_rfl) (by kernel_rfl) (fun _ _ _ h => h) (Or.inl ⟨by rfl, ?_⟩) (by assumption) ?_
        rotate_left
        · (intro w' hSw; (try dsimp only at hSw); go_simp; try (with_reducible rfl))
        (try simp only [Act.put, List.getElem_toArray, List.getElem_cons_zero, List.getElem_cons_succ, List.setIfInBounds_toArray, List.set_cons_zero, List.set_cons_succ])
        have HN0 := hid (HK.out.later (bdrew (bid _)) : Mk w q b vw c vr z3 z2 a0 ⟨hk', hs', hx', hp'⟩ qa ⟨gk, gs, gx, gp⟩ none _)
        clear hHeld
        refine rename_to (Mk w q b vw c vr z3 z2 a0 ⟨hk', hs', hx', hp'⟩ qa ⟨gk, gs, gx, gp⟩ none) HN0.out ?_
        clear HN0
        intro Z hn
        have HN := hid hn
        clear hn
        refine wpAnyH_ready (rs := [1, 13]) (by kernel_rfl) (by simp) (AllReadyH.cons rfl (fun KK hK => ?_) (AllReadyH.cons rfl (fun KK hK => ?_) AllReadyH.nil))
        · go_simp
          go_at_call 15
          refine (pRef_any mp4 _).mono ?_
          rintro e w7 ⟨rfl, hb⟩
          have HN1 := hid (HN.out.later hb)
          clear hb HN
          have HN := HN1
          clear HN1
          go_wp2_with fail
          refine hK.out _ _ HN.out.wt.cells (fun hHeld => ?_)
          clear hK KK hHeld
          (try simp only [Act.put, List.getElem_toArray, List.getElem_cons_zero, List.getElem_cons_succ, List.setIfInBounds_toArray, List.set_cons_zero, List.set_cons_succ])
          refine rename_to (Mk w q b vw c vr z3 z2 a0 ⟨hk', hs', hx', hp'⟩ qa ⟨gk, gs, gx, gp⟩ none) HN.out ?_
          clear HN
          intro Z hn
          have HN := hid hn
          clear hn
          refine wpAnyH_ready (rs := [12, 13]) (by kernel_rfl) (by simp) (AllReadyH.cons rfl (fun KK hK => ?_) (AllReadyH.cons rfl (fun KK hK => ?_) AllReadyH.nil))
          · go_simp
            go_at_call 14
            refine (HRS.out _ HN.out.wt.fr.ref).mono ?_
            rintro e w7 ⟨rfl, hm, hw⟩
            have HN1 := hid (HN.out.two hm hw)
            clear hm hw HN
            have HN := HN1
            clear HN1
            go_wp2_with fail
            refine hK.out _ _ HN.out.wt.cells (fun hHeld => ?_)
            clear hK KK hHeld
            (try simp only [Act.put, List.getElem_toArray, List.getElem_cons_zero, List.getElem_cons_succ, List.setIfInBounds_toArray, List.set_cons_zero, List.set_cons_succ])
            refine rename_to (Mk w q b vw c vr z3 z3 a0 ⟨hk', hs', hx', hp'⟩ qa ⟨gk, gs, gx, gp⟩ none) HN.out ?_
            clear HN
            intro Z hn
            have HN := hid hn
            clear hn
            refine wpAnyH_ready (rs := [13]) (by kernel_rfl) (by simp) (AllReadyH.cons rfl (fun KK hK => ?_) AllReadyH.nil)
            have hnew := HN.out.new
            clear HN
            go_simp
            generalize Z.heap.size = ga at hnew ⊢
            have HN := hid hnew
            clear hnew
            refine hK.out _ _ HN.out.wt.cells (fun hHeld => ?_)
            clear hK KK hHeld
            (try simp only [Act.put, List.getElem_toArray, List.getElem_cons_zero, List.getElem_cons_succ, List.setIfInBounds_toArray, List.set_cons_zero, List.set_cons_succ])
            refine rename_to (Mk w q b vw c vr z3 z3 a0 ⟨hk', hs', hx', hp'⟩ qa ⟨gk, gs, gx, gp⟩ (some ga)) HN.out ?_
            clear HN
            intro Z hn
            have HN := hid hn
            clear hn
            exact tail ga Z HN.out
          · have hnew := HN.out.new
            clear HN
            go_simp
            generalize Z.heap.size = ga at hnew ⊢
            have HN := hid hnew
            clear hnew
            refine hK.out _ _ HN.out.wt.cells (fun hHeld => ?_)
            clear hK KK hHeld
            (try simp only [Act.put, List.getElem_toArray, List.getElem_cons_zero, List.getElem_cons_succ, List.setIfInBounds_toArray, List.set_cons_zero, List.set_cons_succ])
            refine rename_to (Mk w q b vw c vr z3 z2 a0 ⟨hk', hs', hx', hp'⟩ qa ⟨gk, gs, gx, gp⟩ (some ga)) HN.out ?_
            clear HN
            intro Z hn
            have HN := hid hn
            clear hn
            refine wpAnyH_ready (rs := [12]) (by kernel_rfl) (by simp) (AllReadyH.cons rfl (fun KK hK => ?_) AllReadyH.nil)
            go_simp
            go_at_call 14
            refine (HRS.out _ HN.out.wt.fr.ref).mono ?_
            rintro e w7 ⟨rfl, hm, hw⟩
            have HN1 := hid (HN.out.two hm hw)
            clear hm hw HN
            have HN := HN1
            clear HN1
            go_wp2_with fail
            refine hK.out _ _ HN.out.wt.cells (fun hHeld => ?_)
            clear hK KK hHeld
            (try simp only [Act.put, List.getElem_toArray, List.getElem_cons_zero, List.getElem_cons_succ, List.setIfInBounds_toArray, List.set_cons_zero, List.set_cons_succ])
            refine rename_to (Mk w q b vw c vr z3 z3 a0 ⟨hk', hs', hx', hp'⟩ qa ⟨gk, gs, gx, gp⟩ (some ga)) HN.out ?_
            clear HN
            intro Z hn
            have HN := hid hn
            clear hn
            exact tail ga Z HN.out
        · have hnew := HN.out.new
          clear HN
          go_simp
          generalize Z.heap.size = ga at hnew ⊢
          have HN := hid hnew
          clear hnew
          refine hK.out _ _ HN.out.wt.cells (fun hHeld => ?_)
          clear hK KK hHeld
          (try simp only [Act.put, List.getElem_toArray, List.getElem_cons_zero, List.getElem_cons_succ, List.setIfInBounds_toArray, List.set_cons_zero, List.set_cons_succ])
          refine rename_to (Mk w q b vw c vr z3 z2 a0 ⟨hk', hs', hx', hp'⟩ qa ⟨gk, gs, gx, gp⟩ (some ga)) HN.out ?_
          clear HN
          intro Z hn
          have HN := hid hn
          clear hn
          refine wpAnyH_ready (rs := [1]) (by kernel_rfl) (by simp) (AllReadyH.cons rfl (fun KK hK => ?_) AllReadyH.nil)
          go_simp
          go_at_call 15
          refine (pRef_any mp4 _).mono ?_
          rintro e w7 ⟨rfl, hb⟩
          have HN1 := hid (HN.out.later hb)
          clear hb HN
          have HN := HN1
          clear HN1
          go_wp2_with fail
          refine hK.out _ _ HN.out.wt.cells (fun hHeld => ?_)
          clear hK KK hHeld
          (try simp only [Act.put, List.getElem_toArray, List.getElem_cons_zero, List.getElem_cons_succ, List.setIfInBounds_toArray, List.set_cons_zero, List.set_cons_succ])
          refine rename_to (Mk w q b vw c vr z3 z2 a0 ⟨hk', hs', hx', hp'⟩ qa ⟨gk, gs, gx, gp⟩ (some ga)) HN.out ?_
          clear HN
          intro Z hn
          have HN := hid hn
          clear hn
          refine wpAnyH_ready (rs := [12]) (by kernel_rfl) (by simp) (AllReadyH.cons rfl (fun KK hK => ?_) AllReadyH.nil)
          go_simp
          go_at_call 14
          refine (HRS.out _ HN.out.wt.fr.ref).mono ?_
          rintro e w7 ⟨rfl, hm, hw⟩
          have HN1 := hid (HN.out.two hm hw)
          clear hm hw HN
          have HN := HN1
          clear HN1
          go_wp2_with fail
          refine hK.out _ _ HN.out.wt.cells (fun hHeld => ?_)
          clear hK KK hHeld
          (try simp only [Act.put, List.getElem_toArray, List.getElem_cons_zero, List.getElem_cons_succ, List.setIfInBounds_toArray, List.set_cons_zero, List.set_cons_succ])
          refine rename_to (Mk w q b vw c vr z3 z3 a0 ⟨hk', hs', hx', hp'⟩ qa ⟨gk, gs, gx, gp⟩ (some ga)) HN.out ?_
          clear HN
          intro Z hn
          have HN := hid hn
          clear hn
          exact tail ga Z HN.out
      case h2 =>
        intro ga Z hn
        have HN := hid hn
        clear hn
        refine wpAnyH_ready (rs := [14]) (by kernel_rfl) (by simp) (AllReadyH.cons rfl (fun KK hK => ?_) AllReadyH.nil)
        obtain ⟨e0, e1, e2, e3, ef⟩ := (show Bx 36 w q b vw c vr ga b0 Z from HN.out.own).at_.facts
        go_simp
        have HE := hid (HN.out.fin (g' := ⟨gk, gs, gx, gp⟩))
        clear HN e0 e1 e2 e3 ef
        refine hK.out _ _ HE.out.wt.cells (fun hHeld => ?_)
        clear hK KK hHeld
        (try simp only [Act.put, List.getElem_toArray, List.getElem_cons_zero, List.getElem_cons_succ, List.setIfInBounds_toArray, List.set_cons_zero, List.set_cons_succ])
        refine wpAnyH_done (by kernel_rfl) ?_ _
        refine NoPanic.normal ?_
        go_wp2_with fail
        go_meet
        case rel => exact ⟨_, rfl, HE.out⟩
    case rest =>
      clear HK HRS
      obtain ⟨qb, rfl, hk8⟩ := hcut
      have HE := hid hk8
      clear hk8
      have HSM := hid (fun (x : Later wc) => Same_yes x.v _ b vw z3 _ c vr z3 (HE.out.later x.below).wt.fr.mem (HE.out.later x.below).wt.fr.ref rfl (by rw [HL3.out]; decide))
      have HLK := hid (fun (x : Later wc) => Like_yes x.v _ b vw c vr z3 (HE.out.later x.below).wt.fr.pair)
      have HSN := hid (fun (x : World) => Step_nil mp4 ⟨hk', hs', hx', hp'⟩ x mp4_ok)
      have HSA := hid (fun (x : World) => Start_any y4 y5 x)
      have HSB := hid (fun (x : World) => StartBump_any y4 y5 x)
      have HLS := hid (fun (x : World) => like_yes (startF y4 y5) x)
      have HLG := hid (fun (x : World) => like_yes ⟨gk, gs, gx, gp⟩ x)
      have HOV := hid (fun (x : World) => Over_any x0 x1 x)
      generalize startF y4 y5 = st at *
      obtain ⟨tk, ts, tx, tp⟩ := st
      obtain ⟨m0, m1, m2, m3, m4, _⟩ := HE.out.wt.fr.map.facts
      obtain ⟨d0, d1, d2, d3, df⟩ := HE.out.wt.bx.at_.facts
      obtain ⟨e0, e1, e2, e3, ef⟩ := HE.out.ba.at_.facts
      obtain ⟨f0, f1, f2, f3, ff⟩ := HE.out.bb.at_.facts
      have hz1 := HE.out.wt.fr.map.lt
      have hz2 := HE.out.wt.bx.at_.lt
      have hz3 := HE.out.ba.at_.lt
      have hz4 := HE.out.bb.at_.lt
      have heq := eq_bump
      have hgd := guard_bump
      have hsm1 := sameBD_refl ⟨hk', hs', hx', hp'⟩
      go_upto_region 16 with fail
      refine wp_region_later (by kernel_rfl) (by kernel_rfl) ?_
      repeat (go_big_quiet_step (first | (go_at_call 16; with_reducible exact later_call (told11_any _)) | (go_at_call 17; with_reducible exact later_call (HLG.out _)) | (go_at_call 17; with_reducible exact later_call (HLS.out _)) | (go_at_call 18; with_reducible exact later_call (HSM.out _)) | (go_at_call 19; with_reducible exact later_call (HLK.out _)) | (go_at_call 20; with_reducible exact later_call (HSA.out _)) | (go_at_call 21; with_reducible exact later_call (HSB.out _)) | (go_at_call 13; with_reducible exact later_call (HSN.out _)) | (go_at_call 22; with_reducible exact later_same (HOV.out _))))
      refine wpQuiet_nil ?_
      rintro _ ⟨x, rfl⟩
      go_wp2
      go_ret
      exact ⟨rfl, bthen HE.out.wt.fr.below x.below⟩

end Go.Proofs.Ytkfajeimfpbfdaa
