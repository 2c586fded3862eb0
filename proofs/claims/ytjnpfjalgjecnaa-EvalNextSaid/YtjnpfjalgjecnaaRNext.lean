/-
  The document's own Next.
-/
import Derived.Test.YtjnpfjalgjecnaaNext6
import Derived.Test.YtjnpfjalgjecnaaRMay
namespace Go.Proofs.Ytjnpfjalgjecnaa
open Go.RowKit
set_option linter.unusedVariables false
attribute [local go_sem] Later.cell Later.frozen

set_option maxRecDepth 100000 in
set_option maxHeartbeats 4000000 in
theorem refNext_out (a a' : Option Addr) (n c m c' : Nat) (at_ : Int) (r : Rg) (w : World) (h : amongB at_ n = false) :
    Calls Try.prog 19 #[.slice a n c, .slice a' m c', .int .i64 at_, r.v] w (NextRet (at_, r, false) w) := by
  have HX := hid (NxAt.new w r)
  obtain ⟨x0, x1, x2, x3⟩ := r
  have h' : at_ < 0 ∨ (¬ at_ < 0 ∧ (n : Int) ≤ at_) := by have := amongB_not.1 h; omega
  clear h
  rcases h' with h1 | ⟨h1, h2⟩
  · show Calls _ _ #[_, _, _, .agg #[.int .i64 x0, .int .i64 x1, .int .i64 x2, .int .i64 x3]] _ _
    go_enter Try.func19, Try.ntmps19
    go_upto_region 1 with fail
    refine wp_rename (fun W => NxAt w ⟨x0, x1, x2, x3⟩ W) HX.out ?_
    intro W hW
    have HW := hid hW
    clear hW HX
    go_upto_region 2 with fail
    have d0 := cell_of_blk HW.out.regs 0
    have d1 := cell_of_blk HW.out.regs 1
    have d2 := cell_of_blk HW.out.regs 2
    have d3 := cell_of_blk HW.out.regs 3
    simp only [Rg.cs, List.getElem?_toArray, List.getElem?_cons_zero, List.getElem?_cons_succ] at d0 d1 d2 d3
    have e0 := cell_of_blk HW.out.res 0
    have e1 := cell_of_blk HW.out.res 1
    have e2 := cell_of_blk HW.out.res 2
    have e3 := cell_of_blk HW.out.res 3
    simp only [zero4, List.getElem?_toArray, List.getElem?_cons_zero, List.getElem?_cons_succ] at e0 e1 e2 e3
    have f0 := frozen_of_blk HW.out.res 0
    have f1 := frozen_of_blk HW.out.res 1
    have f2 := frozen_of_blk HW.out.res 2
    have f3 := frozen_of_blk HW.out.res 3
    go_region
    go_wp2
    exact bodyPost_ret (v := .tuple #[.int .i64 (at_), .agg #[.int .i64 x0, .int .i64 x1, .int .i64 x2, .int .i64 x3], .bool false]) (by simp [results, Try.results19, go_sem, e0, e1, e2, e3]) rfl ⟨rfl, HW.out.fin _ _ _ _⟩
  · show Calls _ _ #[_, _, _, .agg #[.int .i64 x0, .int .i64 x1, .int .i64 x2, .int .i64 x3]] _ _
    go_enter Try.func19, Try.ntmps19
    go_upto_region 1 with fail
    refine wp_rename (fun W => NxAt w ⟨x0, x1, x2, x3⟩ W) HX.out ?_
    intro W hW
    have HW := hid hW
    clear hW HX
    go_upto_region 2 with fail
    have d0 := cell_of_blk HW.out.regs 0
    have d1 := cell_of_blk HW.out.regs 1
    have d2 := cell_of_blk HW.out.regs 2
    have d3 := cell_of_blk HW.out.regs 3
    simp only [Rg.cs, List.getElem?_toArray, List.getElem?_cons_zero, List.getElem?_cons_succ] at d0 d1 d2 d3
    have e0 := cell_of_blk HW.out.res 0
    have e1 := cell_of_blk HW.out.res 1
    have e2 := cell_of_blk HW.out.res 2
    have e3 := cell_of_blk HW.out.res 3
    simp only [zero4, List.getElem?_toArray, List.getElem?_cons_zero, List.getElem?_cons_succ] at e0 e1 e2 e3
    have f0 := frozen_of_blk HW.out.res 0
    have f1 := frozen_of_blk HW.out.res 1
    have f2 := frozen_of_blk HW.out.res 2
    have f3 := frozen_of_blk HW.out.res 3
    go_region
    go_wp2
    exact bodyPost_ret (v := .tuple #[.int .i64 (at_), .agg #[.int .i64 x0, .int .i64 x1, .int .i64 x2, .int .i64 x3], .bool false]) (by simp [results, Try.results19, go_sem, e0, e1, e2, e3]) rfl ⟨rfl, HW.out.fin _ _ _ _⟩

set_option maxRecDepth 100000 in
set_option maxHeartbeats 4000000 in
theorem refNext_not (a a' : Option Addr) (n c m c' k : Nat) (ps : List Ins) (ms : List Int) (i : Ins) (r : Rg) (w : World) (hr : InsRow w a n ps) (hn : n ≤ 100000) (hk : k < n) (hi : ps[k]? = some i) (h : mayB i = false ∨ mayB i = true ∧ localB i.op = false) :
    Calls Try.prog 19 #[.slice a n c, .slice a' m c', .int .i64 (k : Int), r.v] w (NextRet ((k : Int), r, false) w) := by
  obtain ⟨b, off, rfl, hb, hps⟩ := hr.at (by omega)
  have HX := hid (NxAt.new w r)
  obtain ⟨x0, x1, x2, x3⟩ := r
  obtain ⟨op, ia, ib, ic, iN⟩ := i
  have hAt := hps k _ hi
  have HPS := hid hAt
  have HB := hid hb
  have i1 : (0 : Int) ≤ (k : Int) := by omega
  have i2 : (k : Int) < (n : Int) := by omega
  clear hps hAt hb hr
  dsimp only at h
  rcases h with h1 | ⟨h1, h2⟩
  · show Calls _ _ #[_, _, _, .agg #[.int .i64 x0, .int .i64 x1, .int .i64 x2, .int .i64 x3]] _ _
    go_enter Try.func19, Try.ntmps19
    go_upto_region 1 with fail
    refine wp_rename (fun W => NxAt w ⟨x0, x1, x2, x3⟩ W) HX.out ?_
    intro W hW
    have HW := hid hW
    clear hW HX
    have hq := HPS.out.keep (HW.out.below.block b HB.out)
    obtain ⟨p0, p1, p2, p3, p4⟩ := hq
    dsimp only at p0 p1 p2 p3 p4
    go_upto_region 2 with (first | (go_at_call 12; refine (MayInstr_any ⟨op, ia, ib, ic, iN⟩ _).mono ?_; rintro e w1 ⟨rfl, hb1⟩; have HB1 := hid hb1; have hq1 := HPS.out.keep ((bthen HW.out.below hb1).block b HB.out); obtain ⟨r0, _, _, _, _⟩ := hq1; dsimp only at r0; clear hb1) | (go_at_call 14; refine (refLocal_any _ _).mono ?_; rintro e w' ⟨rfl, rfl⟩))
    refine wp_rename (fun V => NxAt w ⟨x0, x1, x2, x3⟩ V) (HW.out.keep HB1.out) ?_
    intro V hV
    have HV := hid hV
    clear hV p0 p1 p2 p3 p4 r0
    have d0 := cell_of_blk HV.out.regs 0
    have d1 := cell_of_blk HV.out.regs 1
    have d2 := cell_of_blk HV.out.regs 2
    have d3 := cell_of_blk HV.out.regs 3
    simp only [Rg.cs, List.getElem?_toArray, List.getElem?_cons_zero, List.getElem?_cons_succ] at d0 d1 d2 d3
    have e0 := cell_of_blk HV.out.res 0
    have e1 := cell_of_blk HV.out.res 1
    have e2 := cell_of_blk HV.out.res 2
    have e3 := cell_of_blk HV.out.res 3
    simp only [zero4, List.getElem?_toArray, List.getElem?_cons_zero, List.getElem?_cons_succ] at e0 e1 e2 e3
    have f0 := frozen_of_blk HV.out.res 0
    have f1 := frozen_of_blk HV.out.res 1
    have f2 := frozen_of_blk HV.out.res 2
    have f3 := frozen_of_blk HV.out.res 3
    go_region
    go_wp2
    exact bodyPost_ret (v := .tuple #[.int .i64 (k), .agg #[.int .i64 x0, .int .i64 x1, .int .i64 x2, .int .i64 x3], .bool false]) (by simp [results, Try.results19, go_sem, e0, e1, e2, e3]) rfl ⟨rfl, HV.out.fin _ _ _ _⟩
  · show Calls _ _ #[_, _, _, .agg #[.int .i64 x0, .int .i64 x1, .int .i64 x2, .int .i64 x3]] _ _
    go_enter Try.func19, Try.ntmps19
    go_upto_region 1 with fail
    refine wp_rename (fun W => NxAt w ⟨x0, x1, x2, x3⟩ W) HX.out ?_
    intro W hW
    have HW := hid hW
    clear hW HX
    have hq := HPS.out.keep (HW.out.below.block b HB.out)
    obtain ⟨p0, p1, p2, p3, p4⟩ := hq
    dsimp only at p0 p1 p2 p3 p4
    go_upto_region 2 with (first | (go_at_call 12; refine (MayInstr_any ⟨op, ia, ib, ic, iN⟩ _).mono ?_; rintro e w1 ⟨rfl, hb1⟩; have HB1 := hid hb1; have hq1 := HPS.out.keep ((bthen HW.out.below hb1).block b HB.out); obtain ⟨r0, _, _, _, _⟩ := hq1; dsimp only at r0; clear hb1) | (go_at_call 14; refine (refLocal_any _ _).mono ?_; rintro e w' ⟨rfl, rfl⟩))
    refine wp_rename (fun V => NxAt w ⟨x0, x1, x2, x3⟩ V) (HW.out.keep HB1.out) ?_
    intro V hV
    have HV := hid hV
    clear hV p0 p1 p2 p3 p4 r0
    have d0 := cell_of_blk HV.out.regs 0
    have d1 := cell_of_blk HV.out.regs 1
    have d2 := cell_of_blk HV.out.regs 2
    have d3 := cell_of_blk HV.out.regs 3
    simp only [Rg.cs, List.getElem?_toArray, List.getElem?_cons_zero, List.getElem?_cons_succ] at d0 d1 d2 d3
    have e0 := cell_of_blk HV.out.res 0
    have e1 := cell_of_blk HV.out.res 1
    have e2 := cell_of_blk HV.out.res 2
    have e3 := cell_of_blk HV.out.res 3
    simp only [zero4, List.getElem?_toArray, List.getElem?_cons_zero, List.getElem?_cons_succ] at e0 e1 e2 e3
    have f0 := frozen_of_blk HV.out.res 0
    have f1 := frozen_of_blk HV.out.res 1
    have f2 := frozen_of_blk HV.out.res 2
    have f3 := frozen_of_blk HV.out.res 3
    go_region
    go_wp2
    exact bodyPost_ret (v := .tuple #[.int .i64 (k), .agg #[.int .i64 x0, .int .i64 x1, .int .i64 x2, .int .i64 x3], .bool false]) (by simp [results, Try.results19, go_sem, e0, e1, e2, e3]) rfl ⟨rfl, HV.out.fin _ _ _ _⟩

set_option maxRecDepth 100000 in
set_option maxHeartbeats 4000000 in
theorem refNext_end (a a' : Option Addr) (n c m c' k : Nat) (ps : List Ins) (ms : List Int) (i : Ins) (r : Rg) (w : World) (hr : InsRow w a n ps) (hn : n ≤ 100000) (hk : k < n) (hi : ps[k]? = some i) (h1 : localB i.op = true) (h2 : mayB i = true) (ho : i.op = 20) :
    Calls Try.prog 19 #[.slice a n c, .slice a' m c', .int .i64 (k : Int), r.v] w (NextRet ((k : Int) + 1, r, true) w) := by
  obtain ⟨b, off, rfl, hb, hps⟩ := hr.at (by omega)
  have HX := hid (NxAt.new w r)
  obtain ⟨x0, x1, x2, x3⟩ := r
  obtain ⟨op, ia, ib, ic, iN⟩ := i
  have hAt := hps k _ hi
  have HPS := hid hAt
  have HB := hid hb
  have i1 : (0 : Int) ≤ (k : Int) := by omega
  have i2 : (k : Int) < (n : Int) := by omega
  clear hps hAt hb hr
  dsimp only at h1 h2 ho
  subst ho
  show Calls _ _ #[_, _, _, .agg #[.int .i64 x0, .int .i64 x1, .int .i64 x2, .int .i64 x3]] _ _
  go_enter Try.func19, Try.ntmps19
  go_upto_region 1 with fail
  refine wp_rename (fun W => NxAt w ⟨x0, x1, x2, x3⟩ W) HX.out ?_
  intro W hW
  have HW := hid hW
  clear hW HX
  have hq := HPS.out.keep (HW.out.below.block b HB.out)
  obtain ⟨p0, p1, p2, p3, p4⟩ := hq
  dsimp only at p0 p1 p2 p3 p4
  go_upto_region 3 with (first | (go_at_call 12; refine (MayInstr_any ⟨20, ia, ib, ic, iN⟩ _).mono ?_; rintro e w1 ⟨rfl, hb1⟩; have HB1 := hid hb1; have hq1 := HPS.out.keep ((bthen HW.out.below hb1).block b HB.out); obtain ⟨r0, _, _, _, _⟩ := hq1; dsimp only at r0; clear hb1) | (go_at_call 14; refine (refLocal_any _ _).mono ?_; rintro e w' ⟨rfl, rfl⟩))
  refine wp_rename (fun V => NxAt w ⟨x0, x1, x2, x3⟩ V) (HW.out.keep HB1.out) ?_
  intro V hV
  have HV := hid hV
  clear hV p0 p1 p2 p3 p4 r0
  have hq := HPS.out.keep (HV.out.below.block b HB.out)
  obtain ⟨p0, p1, p2, p3, p4⟩ := hq
  dsimp only at p0 p1 p2 p3 p4
  go_upto_region 4 with fail
  refine wp_rename (fun U => NxMid w ⟨x0, x1, x2, x3⟩ ⟨20, ia, ib, ic, iN⟩ V.heap.size U) (HV.out.boxed _) ?_
  intro U hU
  have HU := hid hU
  clear hU p0 p1 p2 p3 p4
  have g0 := cell_of_blk HU.out.box 0
  have g1 := cell_of_blk HU.out.box 1
  have g2 := cell_of_blk HU.out.box 2
  have g3 := cell_of_blk HU.out.box 3
  have g4 := cell_of_blk HU.out.box 4
  simp only [Ins.cs, List.getElem?_toArray, List.getElem?_cons_zero, List.getElem?_cons_succ] at g0 g1 g2 g3 g4
  have lt1 := lt_of_block HU.out.box
  have lt2 := lt_of_block HU.out.at_.regs
  go_upto_region 27 with fail
  have d0 := cell_of_blk HU.out.at_.regs 0
  have d1 := cell_of_blk HU.out.at_.regs 1
  have d2 := cell_of_blk HU.out.at_.regs 2
  have d3 := cell_of_blk HU.out.at_.regs 3
  simp only [Rg.cs, List.getElem?_toArray, List.getElem?_cons_zero, List.getElem?_cons_succ] at d0 d1 d2 d3
  have e0 := cell_of_blk HU.out.at_.res 0
  have e1 := cell_of_blk HU.out.at_.res 1
  have e2 := cell_of_blk HU.out.at_.res 2
  have e3 := cell_of_blk HU.out.at_.res 3
  simp only [zero4, List.getElem?_toArray, List.getElem?_cons_zero, List.getElem?_cons_succ] at e0 e1 e2 e3
  have f0 := frozen_of_blk HU.out.at_.res 0
  have f1 := frozen_of_blk HU.out.at_.res 1
  have f2 := frozen_of_blk HU.out.at_.res 2
  have f3 := frozen_of_blk HU.out.at_.res 3
  go_region
  go_wp2
  exact bodyPost_ret (v := .tuple #[.int .i64 (k + 1), .agg #[.int .i64 x0, .int .i64 x1, .int .i64 x2, .int .i64 x3], .bool true]) (by simp [results, Try.results19, go_sem, e0, e1, e2, e3]) rfl ⟨rfl, HU.out.at_.fin _ _ _ _⟩

set_option maxRecDepth 100000 in
set_option maxHeartbeats 4000000 in
theorem refNext_lost (a a' : Option Addr) (n c m c' k : Nat) (ps : List Ins) (ms : List Int) (i : Ins) (r : Rg) (w : World) (hr : InsRow w a n ps) (hn : n ≤ 100000) (hk : k < n) (hi : ps[k]? = some i) (hm : IntRow w a' m ms) (h1 : localB i.op = true) (h2 : mayB i = true) (ho : jumpB i.op = true) (hx : amongB (k : Int) m = false ∨ amongB (k : Int) m = true ∧ amongB (ms.getD k 0) n = false) :
    Calls Try.prog 19 #[.slice a n c, .slice a' m c', .int .i64 (k : Int), r.v] w (NextRet ((k : Int), r, false) w) := by
  have hmc : ∀ (_ : amongB (k : Int) m = true), ∃ b' off', a' = some ⟨b', off', none⟩ ∧ b' < w.heap.size ∧ w.cell? ⟨b', off' + k, none⟩ = some (.int .i64 (ms.getD k 0)) := fun h => by
    have hlt := (amongB_iff.1 h).2
    obtain ⟨b', off', e, e2, e3⟩ := hm.at (by omega)
    exact ⟨b', off', e, e2, e3 k (by omega)⟩
  have HMC := hid hmc
  clear hmc hm
  obtain ⟨x, hxx⟩ : ∃ x, ms.getD k 0 = x := ⟨_, rfl⟩
  rw [hxx] at hx HMC
  clear hxx
  have HAA := hid (fun h => if_regs h2 h)
  obtain ⟨b, off, rfl, hb, hps⟩ := hr.at (by omega)
  have HX := hid (NxAt.new w r)
  obtain ⟨x0, x1, x2, x3⟩ := r
  obtain ⟨op, ia, ib, ic, iN⟩ := i
  have hAt := hps k _ hi
  have HPS := hid hAt
  have HB := hid hb
  have i1 : (0 : Int) ≤ (k : Int) := by omega
  have i2 : (k : Int) < (n : Int) := by omega
  clear hps hAt hb hr
  dsimp only at h1 h2 ho HAA
  have ho' := of_decide_eq_true ho
  clear ho
  have hx' : (m : Int) ≤ (k : Int) ∨ (amongB (k : Int) m = true ∧ (k : Int) < (m : Int) ∧ (x < 0 ∨ (¬ x < 0 ∧ (n : Int) ≤ x))) := by
    rcases hx with hx | ⟨hx, hy⟩
    · left; have := amongB_not.1 hx; omega
    · right
      have h3 := amongB_iff.1 hx
      have h4 := amongB_not.1 hy
      exact ⟨hx, by omega, by omega⟩
  clear hx
  rcases hx' with hx | ⟨hx, i3, hy⟩
  · rcases ho' with rfl | rfl | rfl | rfl
    · have HA := hid (HAA.out (Or.inl rfl))
      show Calls _ _ #[_, _, _, .agg #[.int .i64 x0, .int .i64 x1, .int .i64 x2, .int .i64 x3]] _ _
      go_enter Try.func19, Try.ntmps19
      go_upto_region 1 with fail
      refine wp_rename (fun W => NxAt w ⟨x0, x1, x2, x3⟩ W) HX.out ?_
      intro W hW
      have HW := hid hW
      clear hW HX
      have hq := HPS.out.keep (HW.out.below.block b HB.out)
      obtain ⟨p0, p1, p2, p3, p4⟩ := hq
      dsimp only at p0 p1 p2 p3 p4
      go_upto_region 3 with (first | (go_at_call 12; refine (MayInstr_any ⟨18, ia, ib, ic, iN⟩ _).mono ?_; rintro e w1 ⟨rfl, hb1⟩; have HB1 := hid hb1; have hq1 := HPS.out.keep ((bthen HW.out.below hb1).block b HB.out); obtain ⟨r0, _, _, _, _⟩ := hq1; dsimp only at r0; clear hb1) | (go_at_call 14; refine (refLocal_any _ _).mono ?_; rintro e w' ⟨rfl, rfl⟩))
      refine wp_rename (fun V => NxAt w ⟨x0, x1, x2, x3⟩ V) (HW.out.keep HB1.out) ?_
      intro V hV
      have HV := hid hV
      clear hV p0 p1 p2 p3 p4 r0
      have hq := HPS.out.keep (HV.out.below.block b HB.out)
      obtain ⟨p0, p1, p2, p3, p4⟩ := hq
      dsimp only at p0 p1 p2 p3 p4
      go_upto_region 4 with fail
      refine wp_rename (fun U => NxMid w ⟨x0, x1, x2, x3⟩ ⟨18, ia, ib, ic, iN⟩ V.heap.size U) (HV.out.boxed _) ?_
      intro U hU
      have HU := hid hU
      clear hU p0 p1 p2 p3 p4
      have g0 := cell_of_blk HU.out.box 0
      have g1 := cell_of_blk HU.out.box 1
      have g2 := cell_of_blk HU.out.box 2
      have g3 := cell_of_blk HU.out.box 3
      have g4 := cell_of_blk HU.out.box 4
      simp only [Ins.cs, List.getElem?_toArray, List.getElem?_cons_zero, List.getElem?_cons_succ] at g0 g1 g2 g3 g4
      have lt1 := lt_of_block HU.out.box
      have lt2 := lt_of_block HU.out.at_.regs
      obtain ⟨y, hy⟩ : ∃ y, Rg.get ⟨x0, x1, x2, x3⟩ ia = y := ⟨_, rfl⟩
      have ca := Rg.cell HU.out.at_.regs HA.out.1 HA.out.2
      rw [hy] at ca
      by_cases hz : y = 0
      · subst hz
        go_upto_region 7 with fail
        have d0 := cell_of_blk HU.out.at_.regs 0
        have d1 := cell_of_blk HU.out.at_.regs 1
        have d2 := cell_of_blk HU.out.at_.regs 2
        have d3 := cell_of_blk HU.out.at_.regs 3
        simp only [Rg.cs, List.getElem?_toArray, List.getElem?_cons_zero, List.getElem?_cons_succ] at d0 d1 d2 d3
        have e0 := cell_of_blk HU.out.at_.res 0
        have e1 := cell_of_blk HU.out.at_.res 1
        have e2 := cell_of_blk HU.out.at_.res 2
        have e3 := cell_of_blk HU.out.at_.res 3
        simp only [zero4, List.getElem?_toArray, List.getElem?_cons_zero, List.getElem?_cons_succ] at e0 e1 e2 e3
        have f0 := frozen_of_blk HU.out.at_.res 0
        have f1 := frozen_of_blk HU.out.at_.res 1
        have f2 := frozen_of_blk HU.out.at_.res 2
        have f3 := frozen_of_blk HU.out.at_.res 3
        go_region
        go_wp2
        exact bodyPost_ret (v := .tuple #[.int .i64 (k), .agg #[.int .i64 x0, .int .i64 x1, .int .i64 x2, .int .i64 x3], .bool false]) (by simp [results, Try.results19, go_sem, e0, e1, e2, e3]) rfl ⟨rfl, HU.out.at_.fin _ _ _ _⟩
      · have z1 : (y == 0) = false := by simpa using hz
        clear hz
        go_upto_region 7 with fail
        have d0 := cell_of_blk HU.out.at_.regs 0
        have d1 := cell_of_blk HU.out.at_.regs 1
        have d2 := cell_of_blk HU.out.at_.regs 2
        have d3 := cell_of_blk HU.out.at_.regs 3
        simp only [Rg.cs, List.getElem?_toArray, List.getElem?_cons_zero, List.getElem?_cons_succ] at d0 d1 d2 d3
        have e0 := cell_of_blk HU.out.at_.res 0
        have e1 := cell_of_blk HU.out.at_.res 1
        have e2 := cell_of_blk HU.out.at_.res 2
        have e3 := cell_of_blk HU.out.at_.res 3
        simp only [zero4, List.getElem?_toArray, List.getElem?_cons_zero, List.getElem?_cons_succ] at e0 e1 e2 e3
        have f0 := frozen_of_blk HU.out.at_.res 0
        have f1 := frozen_of_blk HU.out.at_.res 1
        have f2 := frozen_of_blk HU.out.at_.res 2
        have f3 := frozen_of_blk HU.out.at_.res 3
        go_region
        go_wp2
        exact bodyPost_ret (v := .tuple #[.int .i64 (k), .agg #[.int .i64 x0, .int .i64 x1, .int .i64 x2, .int .i64 x3], .bool false]) (by simp [results, Try.results19, go_sem, e0, e1, e2, e3]) rfl ⟨rfl, HU.out.at_.fin _ _ _ _⟩
    · show Calls _ _ #[_, _, _, .agg #[.int .i64 x0, .int .i64 x1, .int .i64 x2, .int .i64 x3]] _ _
      go_enter Try.func19, Try.ntmps19
      go_upto_region 1 with fail
      refine wp_rename (fun W => NxAt w ⟨x0, x1, x2, x3⟩ W) HX.out ?_
      intro W hW
      have HW := hid hW
      clear hW HX
      have hq := HPS.out.keep (HW.out.below.block b HB.out)
      obtain ⟨p0, p1, p2, p3, p4⟩ := hq
      dsimp only at p0 p1 p2 p3 p4
      go_upto_region 3 with (first | (go_at_call 12; refine (MayInstr_any ⟨19, ia, ib, ic, iN⟩ _).mono ?_; rintro e w1 ⟨rfl, hb1⟩; have HB1 := hid hb1; have hq1 := HPS.out.keep ((bthen HW.out.below hb1).block b HB.out); obtain ⟨r0, _, _, _, _⟩ := hq1; dsimp only at r0; clear hb1) | (go_at_call 14; refine (refLocal_any _ _).mono ?_; rintro e w' ⟨rfl, rfl⟩))
      refine wp_rename (fun V => NxAt w ⟨x0, x1, x2, x3⟩ V) (HW.out.keep HB1.out) ?_
      intro V hV
      have HV := hid hV
      clear hV p0 p1 p2 p3 p4 r0
      have hq := HPS.out.keep (HV.out.below.block b HB.out)
      obtain ⟨p0, p1, p2, p3, p4⟩ := hq
      dsimp only at p0 p1 p2 p3 p4
      go_upto_region 4 with fail
      refine wp_rename (fun U => NxMid w ⟨x0, x1, x2, x3⟩ ⟨19, ia, ib, ic, iN⟩ V.heap.size U) (HV.out.boxed _) ?_
      intro U hU
      have HU := hid hU
      clear hU p0 p1 p2 p3 p4
      have g0 := cell_of_blk HU.out.box 0
      have g1 := cell_of_blk HU.out.box 1
      have g2 := cell_of_blk HU.out.box 2
      have g3 := cell_of_blk HU.out.box 3
      have g4 := cell_of_blk HU.out.box 4
      simp only [Ins.cs, List.getElem?_toArray, List.getElem?_cons_zero, List.getElem?_cons_succ] at g0 g1 g2 g3 g4
      have lt1 := lt_of_block HU.out.box
      have lt2 := lt_of_block HU.out.at_.regs
      go_upto_region 7 with fail
      have d0 := cell_of_blk HU.out.at_.regs 0
      have d1 := cell_of_blk HU.out.at_.regs 1
      have d2 := cell_of_blk HU.out.at_.regs 2
      have d3 := cell_of_blk HU.out.at_.regs 3
      simp only [Rg.cs, List.getElem?_toArray, List.getElem?_cons_zero, List.getElem?_cons_succ] at d0 d1 d2 d3
      have e0 := cell_of_blk HU.out.at_.res 0
      have e1 := cell_of_blk HU.out.at_.res 1
      have e2 := cell_of_blk HU.out.at_.res 2
      have e3 := cell_of_blk HU.out.at_.res 3
      simp only [zero4, List.getElem?_toArray, List.getElem?_cons_zero, List.getElem?_cons_succ] at e0 e1 e2 e3
      have f0 := frozen_of_blk HU.out.at_.res 0
      have f1 := frozen_of_blk HU.out.at_.res 1
      have f2 := frozen_of_blk HU.out.at_.res 2
      have f3 := frozen_of_blk HU.out.at_.res 3
      go_region
      go_wp2
      exact bodyPost_ret (v := .tuple #[.int .i64 (k), .agg #[.int .i64 x0, .int .i64 x1, .int .i64 x2, .int .i64 x3], .bool false]) (by simp [results, Try.results19, go_sem, e0, e1, e2, e3]) rfl ⟨rfl, HU.out.at_.fin _ _ _ _⟩
    · have HA := hid (HAA.out (Or.inr rfl))
      show Calls _ _ #[_, _, _, .agg #[.int .i64 x0, .int .i64 x1, .int .i64 x2, .int .i64 x3]] _ _
      go_enter Try.func19, Try.ntmps19
      go_upto_region 1 with fail
      refine wp_rename (fun W => NxAt w ⟨x0, x1, x2, x3⟩ W) HX.out ?_
      intro W hW
      have HW := hid hW
      clear hW HX
      have hq := HPS.out.keep (HW.out.below.block b HB.out)
      obtain ⟨p0, p1, p2, p3, p4⟩ := hq
      dsimp only at p0 p1 p2 p3 p4
      go_upto_region 3 with (first | (go_at_call 12; refine (MayInstr_any ⟨21, ia, ib, ic, iN⟩ _).mono ?_; rintro e w1 ⟨rfl, hb1⟩; have HB1 := hid hb1; have hq1 := HPS.out.keep ((bthen HW.out.below hb1).block b HB.out); obtain ⟨r0, _, _, _, _⟩ := hq1; dsimp only at r0; clear hb1) | (go_at_call 14; refine (refLocal_any _ _).mono ?_; rintro e w' ⟨rfl, rfl⟩))
      refine wp_rename (fun V => NxAt w ⟨x0, x1, x2, x3⟩ V) (HW.out.keep HB1.out) ?_
      intro V hV
      have HV := hid hV
      clear hV p0 p1 p2 p3 p4 r0
      have hq := HPS.out.keep (HV.out.below.block b HB.out)
      obtain ⟨p0, p1, p2, p3, p4⟩ := hq
      dsimp only at p0 p1 p2 p3 p4
      go_upto_region 4 with fail
      refine wp_rename (fun U => NxMid w ⟨x0, x1, x2, x3⟩ ⟨21, ia, ib, ic, iN⟩ V.heap.size U) (HV.out.boxed _) ?_
      intro U hU
      have HU := hid hU
      clear hU p0 p1 p2 p3 p4
      have g0 := cell_of_blk HU.out.box 0
      have g1 := cell_of_blk HU.out.box 1
      have g2 := cell_of_blk HU.out.box 2
      have g3 := cell_of_blk HU.out.box 3
      have g4 := cell_of_blk HU.out.box 4
      simp only [Ins.cs, List.getElem?_toArray, List.getElem?_cons_zero, List.getElem?_cons_succ] at g0 g1 g2 g3 g4
      have lt1 := lt_of_block HU.out.box
      have lt2 := lt_of_block HU.out.at_.regs
      obtain ⟨y, hy⟩ : ∃ y, Rg.get ⟨x0, x1, x2, x3⟩ ia = y := ⟨_, rfl⟩
      have ca := Rg.cell HU.out.at_.regs HA.out.1 HA.out.2
      rw [hy] at ca
      by_cases hz : y = 0
      · subst hz
        go_upto_region 7 with fail
        have d0 := cell_of_blk HU.out.at_.regs 0
        have d1 := cell_of_blk HU.out.at_.regs 1
        have d2 := cell_of_blk HU.out.at_.regs 2
        have d3 := cell_of_blk HU.out.at_.regs 3
        simp only [Rg.cs, List.getElem?_toArray, List.getElem?_cons_zero, List.getElem?_cons_succ] at d0 d1 d2 d3
        have e0 := cell_of_blk HU.out.at_.res 0
        have e1 := cell_of_blk HU.out.at_.res 1
        have e2 := cell_of_blk HU.out.at_.res 2
        have e3 := cell_of_blk HU.out.at_.res 3
        simp only [zero4, List.getElem?_toArray, List.getElem?_cons_zero, List.getElem?_cons_succ] at e0 e1 e2 e3
        have f0 := frozen_of_blk HU.out.at_.res 0
        have f1 := frozen_of_blk HU.out.at_.res 1
        have f2 := frozen_of_blk HU.out.at_.res 2
        have f3 := frozen_of_blk HU.out.at_.res 3
        go_region
        go_wp2
        exact bodyPost_ret (v := .tuple #[.int .i64 (k), .agg #[.int .i64 x0, .int .i64 x1, .int .i64 x2, .int .i64 x3], .bool false]) (by simp [results, Try.results19, go_sem, e0, e1, e2, e3]) rfl ⟨rfl, HU.out.at_.fin _ _ _ _⟩
      · have z1 : (y == 0) = false := by simpa using hz
        clear hz
        go_upto_region 7 with fail
        have d0 := cell_of_blk HU.out.at_.regs 0
        have d1 := cell_of_blk HU.out.at_.regs 1
        have d2 := cell_of_blk HU.out.at_.regs 2
        have d3 := cell_of_blk HU.out.at_.regs 3
        simp only [Rg.cs, List.getElem?_toArray, List.getElem?_cons_zero, List.getElem?_cons_succ] at d0 d1 d2 d3
        have e0 := cell_of_blk HU.out.at_.res 0
        have e1 := cell_of_blk HU.out.at_.res 1
        have e2 := cell_of_blk HU.out.at_.res 2
        have e3 := cell_of_blk HU.out.at_.res 3
        simp only [zero4, List.getElem?_toArray, List.getElem?_cons_zero, List.getElem?_cons_succ] at e0 e1 e2 e3
        have f0 := frozen_of_blk HU.out.at_.res 0
        have f1 := frozen_of_blk HU.out.at_.res 1
        have f2 := frozen_of_blk HU.out.at_.res 2
        have f3 := frozen_of_blk HU.out.at_.res 3
        go_region
        go_wp2
        exact bodyPost_ret (v := .tuple #[.int .i64 (k), .agg #[.int .i64 x0, .int .i64 x1, .int .i64 x2, .int .i64 x3], .bool false]) (by simp [results, Try.results19, go_sem, e0, e1, e2, e3]) rfl ⟨rfl, HU.out.at_.fin _ _ _ _⟩
    · show Calls _ _ #[_, _, _, .agg #[.int .i64 x0, .int .i64 x1, .int .i64 x2, .int .i64 x3]] _ _
      go_enter Try.func19, Try.ntmps19
      go_upto_region 1 with fail
      refine wp_rename (fun W => NxAt w ⟨x0, x1, x2, x3⟩ W) HX.out ?_
      intro W hW
      have HW := hid hW
      clear hW HX
      have hq := HPS.out.keep (HW.out.below.block b HB.out)
      obtain ⟨p0, p1, p2, p3, p4⟩ := hq
      dsimp only at p0 p1 p2 p3 p4
      go_upto_region 3 with (first | (go_at_call 12; refine (MayInstr_any ⟨22, ia, ib, ic, iN⟩ _).mono ?_; rintro e w1 ⟨rfl, hb1⟩; have HB1 := hid hb1; have hq1 := HPS.out.keep ((bthen HW.out.below hb1).block b HB.out); obtain ⟨r0, _, _, _, _⟩ := hq1; dsimp only at r0; clear hb1) | (go_at_call 14; refine (refLocal_any _ _).mono ?_; rintro e w' ⟨rfl, rfl⟩))
      refine wp_rename (fun V => NxAt w ⟨x0, x1, x2, x3⟩ V) (HW.out.keep HB1.out) ?_
      intro V hV
      have HV := hid hV
      clear hV p0 p1 p2 p3 p4 r0
      have hq := HPS.out.keep (HV.out.below.block b HB.out)
      obtain ⟨p0, p1, p2, p3, p4⟩ := hq
      dsimp only at p0 p1 p2 p3 p4
      go_upto_region 4 with fail
      refine wp_rename (fun U => NxMid w ⟨x0, x1, x2, x3⟩ ⟨22, ia, ib, ic, iN⟩ V.heap.size U) (HV.out.boxed _) ?_
      intro U hU
      have HU := hid hU
      clear hU p0 p1 p2 p3 p4
      have g0 := cell_of_blk HU.out.box 0
      have g1 := cell_of_blk HU.out.box 1
      have g2 := cell_of_blk HU.out.box 2
      have g3 := cell_of_blk HU.out.box 3
      have g4 := cell_of_blk HU.out.box 4
      simp only [Ins.cs, List.getElem?_toArray, List.getElem?_cons_zero, List.getElem?_cons_succ] at g0 g1 g2 g3 g4
      have lt1 := lt_of_block HU.out.box
      have lt2 := lt_of_block HU.out.at_.regs
      go_upto_region 7 with fail
      have d0 := cell_of_blk HU.out.at_.regs 0
      have d1 := cell_of_blk HU.out.at_.regs 1
      have d2 := cell_of_blk HU.out.at_.regs 2
      have d3 := cell_of_blk HU.out.at_.regs 3
      simp only [Rg.cs, List.getElem?_toArray, List.getElem?_cons_zero, List.getElem?_cons_succ] at d0 d1 d2 d3
      have e0 := cell_of_blk HU.out.at_.res 0
      have e1 := cell_of_blk HU.out.at_.res 1
      have e2 := cell_of_blk HU.out.at_.res 2
      have e3 := cell_of_blk HU.out.at_.res 3
      simp only [zero4, List.getElem?_toArray, List.getElem?_cons_zero, List.getElem?_cons_succ] at e0 e1 e2 e3
      have f0 := frozen_of_blk HU.out.at_.res 0
      have f1 := frozen_of_blk HU.out.at_.res 1
      have f2 := frozen_of_blk HU.out.at_.res 2
      have f3 := frozen_of_blk HU.out.at_.res 3
      go_region
      go_wp2
      exact bodyPost_ret (v := .tuple #[.int .i64 (k), .agg #[.int .i64 x0, .int .i64 x1, .int .i64 x2, .int .i64 x3], .bool false]) (by simp [results, Try.results19, go_sem, e0, e1, e2, e3]) rfl ⟨rfl, HU.out.at_.fin _ _ _ _⟩
  · obtain ⟨b', off', rfl, hb', hc'⟩ := HMC.out hx
    have HB' := hid hb'
    have HC' := hid hc'
    clear hb' hc' HMC hx
    rcases hy with hy | ⟨hy, hy2⟩
    · rcases ho' with rfl | rfl | rfl | rfl
      · have HA := hid (HAA.out (Or.inl rfl))
        show Calls _ _ #[_, _, _, .agg #[.int .i64 x0, .int .i64 x1, .int .i64 x2, .int .i64 x3]] _ _
        go_enter Try.func19, Try.ntmps19
        go_upto_region 1 with fail
        refine wp_rename (fun W => NxAt w ⟨x0, x1, x2, x3⟩ W) HX.out ?_
        intro W hW
        have HW := hid hW
        clear hW HX
        have hq := HPS.out.keep (HW.out.below.block b HB.out)
        obtain ⟨p0, p1, p2, p3, p4⟩ := hq
        dsimp only at p0 p1 p2 p3 p4
        go_upto_region 3 with (first | (go_at_call 12; refine (MayInstr_any ⟨18, ia, ib, ic, iN⟩ _).mono ?_; rintro e w1 ⟨rfl, hb1⟩; have HB1 := hid hb1; have hq1 := HPS.out.keep ((bthen HW.out.below hb1).block b HB.out); obtain ⟨r0, _, _, _, _⟩ := hq1; dsimp only at r0; clear hb1) | (go_at_call 14; refine (refLocal_any _ _).mono ?_; rintro e w' ⟨rfl, rfl⟩))
        refine wp_rename (fun V => NxAt w ⟨x0, x1, x2, x3⟩ V) (HW.out.keep HB1.out) ?_
        intro V hV
        have HV := hid hV
        clear hV p0 p1 p2 p3 p4 r0
        have hq := HPS.out.keep (HV.out.below.block b HB.out)
        obtain ⟨p0, p1, p2, p3, p4⟩ := hq
        dsimp only at p0 p1 p2 p3 p4
        go_upto_region 4 with fail
        refine wp_rename (fun U => NxMid w ⟨x0, x1, x2, x3⟩ ⟨18, ia, ib, ic, iN⟩ V.heap.size U) (HV.out.boxed _) ?_
        intro U hU
        have HU := hid hU
        clear hU p0 p1 p2 p3 p4
        have g0 := cell_of_blk HU.out.box 0
        have g1 := cell_of_blk HU.out.box 1
        have g2 := cell_of_blk HU.out.box 2
        have g3 := cell_of_blk HU.out.box 3
        have g4 := cell_of_blk HU.out.box 4
        simp only [Ins.cs, List.getElem?_toArray, List.getElem?_cons_zero, List.getElem?_cons_succ] at g0 g1 g2 g3 g4
        have lt1 := lt_of_block HU.out.box
        have lt2 := lt_of_block HU.out.at_.regs
        obtain ⟨y, hy⟩ : ∃ y, Rg.get ⟨x0, x1, x2, x3⟩ ia = y := ⟨_, rfl⟩
        have ca := Rg.cell HU.out.at_.regs HA.out.1 HA.out.2
        rw [hy] at ca
        by_cases hz : y = 0
        · subst hz
          have m0 := (World.cell?_of_block (a := ⟨b', off' + k, none⟩) (HU.out.at_.below.block b' HB'.out)).trans HC'.out
          go_upto_region 7 with fail
          clear m0
          have d0 := cell_of_blk HU.out.at_.regs 0
          have d1 := cell_of_blk HU.out.at_.regs 1
          have d2 := cell_of_blk HU.out.at_.regs 2
          have d3 := cell_of_blk HU.out.at_.regs 3
          simp only [Rg.cs, List.getElem?_toArray, List.getElem?_cons_zero, List.getElem?_cons_succ] at d0 d1 d2 d3
          have e0 := cell_of_blk HU.out.at_.res 0
          have e1 := cell_of_blk HU.out.at_.res 1
          have e2 := cell_of_blk HU.out.at_.res 2
          have e3 := cell_of_blk HU.out.at_.res 3
          simp only [zero4, List.getElem?_toArray, List.getElem?_cons_zero, List.getElem?_cons_succ] at e0 e1 e2 e3
          have f0 := frozen_of_blk HU.out.at_.res 0
          have f1 := frozen_of_blk HU.out.at_.res 1
          have f2 := frozen_of_blk HU.out.at_.res 2
          have f3 := frozen_of_blk HU.out.at_.res 3
          go_region
          go_wp2
          exact bodyPost_ret (v := .tuple #[.int .i64 (k), .agg #[.int .i64 x0, .int .i64 x1, .int .i64 x2, .int .i64 x3], .bool false]) (by simp [results, Try.results19, go_sem, e0, e1, e2, e3]) rfl ⟨rfl, HU.out.at_.fin _ _ _ _⟩
        · have z1 : (y == 0) = false := by simpa using hz
          clear hz
          have m0 := (World.cell?_of_block (a := ⟨b', off' + k, none⟩) (HU.out.at_.below.block b' HB'.out)).trans HC'.out
          go_upto_region 7 with fail
          clear m0
          have d0 := cell_of_blk HU.out.at_.regs 0
          have d1 := cell_of_blk HU.out.at_.regs 1
          have d2 := cell_of_blk HU.out.at_.regs 2
          have d3 := cell_of_blk HU.out.at_.regs 3
          simp only [Rg.cs, List.getElem?_toArray, List.getElem?_cons_zero, List.getElem?_cons_succ] at d0 d1 d2 d3
          have e0 := cell_of_blk HU.out.at_.res 0
          have e1 := cell_of_blk HU.out.at_.res 1
          have e2 := cell_of_blk HU.out.at_.res 2
          have e3 := cell_of_blk HU.out.at_.res 3
          simp only [zero4, List.getElem?_toArray, List.getElem?_cons_zero, List.getElem?_cons_succ] at e0 e1 e2 e3
          have f0 := frozen_of_blk HU.out.at_.res 0
          have f1 := frozen_of_blk HU.out.at_.res 1
          have f2 := frozen_of_blk HU.out.at_.res 2
          have f3 := frozen_of_blk HU.out.at_.res 3
          go_region
          go_wp2
          exact bodyPost_ret (v := .tuple #[.int .i64 (k), .agg #[.int .i64 x0, .int .i64 x1, .int .i64 x2, .int .i64 x3], .bool false]) (by simp [results, Try.results19, go_sem, e0, e1, e2, e3]) rfl ⟨rfl, HU.out.at_.fin _ _ _ _⟩
      · show Calls _ _ #[_, _, _, .agg #[.int .i64 x0, .int .i64 x1, .int .i64 x2, .int .i64 x3]] _ _
        go_enter Try.func19, Try.ntmps19
        go_upto_region 1 with fail
        refine wp_rename (fun W => NxAt w ⟨x0, x1, x2, x3⟩ W) HX.out ?_
        intro W hW
        have HW := hid hW
        clear hW HX
        have hq := HPS.out.keep (HW.out.below.block b HB.out)
        obtain ⟨p0, p1, p2, p3, p4⟩ := hq
        dsimp only at p0 p1 p2 p3 p4
        go_upto_region 3 with (first | (go_at_call 12; refine (MayInstr_any ⟨19, ia, ib, ic, iN⟩ _).mono ?_; rintro e w1 ⟨rfl, hb1⟩; have HB1 := hid hb1; have hq1 := HPS.out.keep ((bthen HW.out.below hb1).block b HB.out); obtain ⟨r0, _, _, _, _⟩ := hq1; dsimp only at r0; clear hb1) | (go_at_call 14; refine (refLocal_any _ _).mono ?_; rintro e w' ⟨rfl, rfl⟩))
        refine wp_rename (fun V => NxAt w ⟨x0, x1, x2, x3⟩ V) (HW.out.keep HB1.out) ?_
        intro V hV
        have HV := hid hV
        clear hV p0 p1 p2 p3 p4 r0
        have hq := HPS.out.keep (HV.out.below.block b HB.out)
        obtain ⟨p0, p1, p2, p3, p4⟩ := hq
        dsimp only at p0 p1 p2 p3 p4
        go_upto_region 4 with fail
        refine wp_rename (fun U => NxMid w ⟨x0, x1, x2, x3⟩ ⟨19, ia, ib, ic, iN⟩ V.heap.size U) (HV.out.boxed _) ?_
        intro U hU
        have HU := hid hU
        clear hU p0 p1 p2 p3 p4
        have g0 := cell_of_blk HU.out.box 0
        have g1 := cell_of_blk HU.out.box 1
        have g2 := cell_of_blk HU.out.box 2
        have g3 := cell_of_blk HU.out.box 3
        have g4 := cell_of_blk HU.out.box 4
        simp only [Ins.cs, List.getElem?_toArray, List.getElem?_cons_zero, List.getElem?_cons_succ] at g0 g1 g2 g3 g4
        have lt1 := lt_of_block HU.out.box
        have lt2 := lt_of_block HU.out.at_.regs
        have m0 := (World.cell?_of_block (a := ⟨b', off' + k, none⟩) (HU.out.at_.below.block b' HB'.out)).trans HC'.out
        go_upto_region 7 with fail
        clear m0
        have d0 := cell_of_blk HU.out.at_.regs 0
        have d1 := cell_of_blk HU.out.at_.regs 1
        have d2 := cell_of_blk HU.out.at_.regs 2
        have d3 := cell_of_blk HU.out.at_.regs 3
        simp only [Rg.cs, List.getElem?_toArray, List.getElem?_cons_zero, List.getElem?_cons_succ] at d0 d1 d2 d3
        have e0 := cell_of_blk HU.out.at_.res 0
        have e1 := cell_of_blk HU.out.at_.res 1
        have e2 := cell_of_blk HU.out.at_.res 2
        have e3 := cell_of_blk HU.out.at_.res 3
        simp only [zero4, List.getElem?_toArray, List.getElem?_cons_zero, List.getElem?_cons_succ] at e0 e1 e2 e3
        have f0 := frozen_of_blk HU.out.at_.res 0
        have f1 := frozen_of_blk HU.out.at_.res 1
        have f2 := frozen_of_blk HU.out.at_.res 2
        have f3 := frozen_of_blk HU.out.at_.res 3
        go_region
        go_wp2
        exact bodyPost_ret (v := .tuple #[.int .i64 (k), .agg #[.int .i64 x0, .int .i64 x1, .int .i64 x2, .int .i64 x3], .bool false]) (by simp [results, Try.results19, go_sem, e0, e1, e2, e3]) rfl ⟨rfl, HU.out.at_.fin _ _ _ _⟩
      · have HA := hid (HAA.out (Or.inr rfl))
        show Calls _ _ #[_, _, _, .agg #[.int .i64 x0, .int .i64 x1, .int .i64 x2, .int .i64 x3]] _ _
        go_enter Try.func19, Try.ntmps19
        go_upto_region 1 with fail
        refine wp_rename (fun W => NxAt w ⟨x0, x1, x2, x3⟩ W) HX.out ?_
        intro W hW
        have HW := hid hW
        clear hW HX
        have hq := HPS.out.keep (HW.out.below.block b HB.out)
        obtain ⟨p0, p1, p2, p3, p4⟩ := hq
        dsimp only at p0 p1 p2 p3 p4
        go_upto_region 3 with (first | (go_at_call 12; refine (MayInstr_any ⟨21, ia, ib, ic, iN⟩ _).mono ?_; rintro e w1 ⟨rfl, hb1⟩; have HB1 := hid hb1; have hq1 := HPS.out.keep ((bthen HW.out.below hb1).block b HB.out); obtain ⟨r0, _, _, _, _⟩ := hq1; dsimp only at r0; clear hb1) | (go_at_call 14; refine (refLocal_any _ _).mono ?_; rintro e w' ⟨rfl, rfl⟩))
        refine wp_rename (fun V => NxAt w ⟨x0, x1, x2, x3⟩ V) (HW.out.keep HB1.out) ?_
        intro V hV
        have HV := hid hV
        clear hV p0 p1 p2 p3 p4 r0
        have hq := HPS.out.keep (HV.out.below.block b HB.out)
        obtain ⟨p0, p1, p2, p3, p4⟩ := hq
        dsimp only at p0 p1 p2 p3 p4
        go_upto_region 4 with fail
        refine wp_rename (fun U => NxMid w ⟨x0, x1, x2, x3⟩ ⟨21, ia, ib, ic, iN⟩ V.heap.size U) (HV.out.boxed _) ?_
        intro U hU
        have HU := hid hU
        clear hU p0 p1 p2 p3 p4
        have g0 := cell_of_blk HU.out.box 0
        have g1 := cell_of_blk HU.out.box 1
        have g2 := cell_of_blk HU.out.box 2
        have g3 := cell_of_blk HU.out.box 3
        have g4 := cell_of_blk HU.out.box 4
        simp only [Ins.cs, List.getElem?_toArray, List.getElem?_cons_zero, List.getElem?_cons_succ] at g0 g1 g2 g3 g4
        have lt1 := lt_of_block HU.out.box
        have lt2 := lt_of_block HU.out.at_.regs
        obtain ⟨y, hy⟩ : ∃ y, Rg.get ⟨x0, x1, x2, x3⟩ ia = y := ⟨_, rfl⟩
        have ca := Rg.cell HU.out.at_.regs HA.out.1 HA.out.2
        rw [hy] at ca
        by_cases hz : y = 0
        · subst hz
          have m0 := (World.cell?_of_block (a := ⟨b', off' + k, none⟩) (HU.out.at_.below.block b' HB'.out)).trans HC'.out
          go_upto_region 7 with fail
          clear m0
          have d0 := cell_of_blk HU.out.at_.regs 0
          have d1 := cell_of_blk HU.out.at_.regs 1
          have d2 := cell_of_blk HU.out.at_.regs 2
          have d3 := cell_of_blk HU.out.at_.regs 3
          simp only [Rg.cs, List.getElem?_toArray, List.getElem?_cons_zero, List.getElem?_cons_succ] at d0 d1 d2 d3
          have e0 := cell_of_blk HU.out.at_.res 0
          have e1 := cell_of_blk HU.out.at_.res 1
          have e2 := cell_of_blk HU.out.at_.res 2
          have e3 := cell_of_blk HU.out.at_.res 3
          simp only [zero4, List.getElem?_toArray, List.getElem?_cons_zero, List.getElem?_cons_succ] at e0 e1 e2 e3
          have f0 := frozen_of_blk HU.out.at_.res 0
          have f1 := frozen_of_blk HU.out.at_.res 1
          have f2 := frozen_of_blk HU.out.at_.res 2
          have f3 := frozen_of_blk HU.out.at_.res 3
          go_region
          go_wp2
          exact bodyPost_ret (v := .tuple #[.int .i64 (k), .agg #[.int .i64 x0, .int .i64 x1, .int .i64 x2, .int .i64 x3], .bool false]) (by simp [results, Try.results19, go_sem, e0, e1, e2, e3]) rfl ⟨rfl, HU.out.at_.fin _ _ _ _⟩
        · have z1 : (y == 0) = false := by simpa using hz
          clear hz
          have m0 := (World.cell?_of_block (a := ⟨b', off' + k, none⟩) (HU.out.at_.below.block b' HB'.out)).trans HC'.out
          go_upto_region 7 with fail
          clear m0
          have d0 := cell_of_blk HU.out.at_.regs 0
          have d1 := cell_of_blk HU.out.at_.regs 1
          have d2 := cell_of_blk HU.out.at_.regs 2
          have d3 := cell_of_blk HU.out.at_.regs 3
          simp only [Rg.cs, List.getElem?_toArray, List.getElem?_cons_zero, List.getElem?_cons_succ] at d0 d1 d2 d3
          have e0 := cell_of_blk HU.out.at_.res 0
          have e1 := cell_of_blk HU.out.at_.res 1
          have e2 := cell_of_blk HU.out.at_.res 2
          have e3 := cell_of_blk HU.out.at_.res 3
          simp only [zero4, List.getElem?_toArray, List.getElem?_cons_zero, List.getElem?_cons_succ] at e0 e1 e2 e3
          have f0 := frozen_of_blk HU.out.at_.res 0
          have f1 := frozen_of_blk HU.out.at_.res 1
          have f2 := frozen_of_blk HU.out.at_.res 2
          have f3 := frozen_of_blk HU.out.at_.res 3
          go_region
          go_wp2
          exact bodyPost_ret (v := .tuple #[.int .i64 (k), .agg #[.int .i64 x0, .int .i64 x1, .int .i64 x2, .int .i64 x3], .bool false]) (by simp [results, Try.results19, go_sem, e0, e1, e2, e3]) rfl ⟨rfl, HU.out.at_.fin _ _ _ _⟩
      · show Calls _ _ #[_, _, _, .agg #[.int .i64 x0, .int .i64 x1, .int .i64 x2, .int .i64 x3]] _ _
        go_enter Try.func19, Try.ntmps19
        go_upto_region 1 with fail
        refine wp_rename (fun W => NxAt w ⟨x0, x1, x2, x3⟩ W) HX.out ?_
        intro W hW
        have HW := hid hW
        clear hW HX
        have hq := HPS.out.keep (HW.out.below.block b HB.out)
        obtain ⟨p0, p1, p2, p3, p4⟩ := hq
        dsimp only at p0 p1 p2 p3 p4
        go_upto_region 3 with (first | (go_at_call 12; refine (MayInstr_any ⟨22, ia, ib, ic, iN⟩ _).mono ?_; rintro e w1 ⟨rfl, hb1⟩; have HB1 := hid hb1; have hq1 := HPS.out.keep ((bthen HW.out.below hb1).block b HB.out); obtain ⟨r0, _, _, _, _⟩ := hq1; dsimp only at r0; clear hb1) | (go_at_call 14; refine (refLocal_any _ _).mono ?_; rintro e w' ⟨rfl, rfl⟩))
        refine wp_rename (fun V => NxAt w ⟨x0, x1, x2, x3⟩ V) (HW.out.keep HB1.out) ?_
        intro V hV
        have HV := hid hV
        clear hV p0 p1 p2 p3 p4 r0
        have hq := HPS.out.keep (HV.out.below.block b HB.out)
        obtain ⟨p0, p1, p2, p3, p4⟩ := hq
        dsimp only at p0 p1 p2 p3 p4
        go_upto_region 4 with fail
        refine wp_rename (fun U => NxMid w ⟨x0, x1, x2, x3⟩ ⟨22, ia, ib, ic, iN⟩ V.heap.size U) (HV.out.boxed _) ?_
        intro U hU
        have HU := hid hU
        clear hU p0 p1 p2 p3 p4
        have g0 := cell_of_blk HU.out.box 0
        have g1 := cell_of_blk HU.out.box 1
        have g2 := cell_of_blk HU.out.box 2
        have g3 := cell_of_blk HU.out.box 3
        have g4 := cell_of_blk HU.out.box 4
        simp only [Ins.cs, List.getElem?_toArray, List.getElem?_cons_zero, List.getElem?_cons_succ] at g0 g1 g2 g3 g4
        have lt1 := lt_of_block HU.out.box
        have lt2 := lt_of_block HU.out.at_.regs
        have m0 := (World.cell?_of_block (a := ⟨b', off' + k, none⟩) (HU.out.at_.below.block b' HB'.out)).trans HC'.out
        go_upto_region 7 with fail
        clear m0
        have d0 := cell_of_blk HU.out.at_.regs 0
        have d1 := cell_of_blk HU.out.at_.regs 1
        have d2 := cell_of_blk HU.out.at_.regs 2
        have d3 := cell_of_blk HU.out.at_.regs 3
        simp only [Rg.cs, List.getElem?_toArray, List.getElem?_cons_zero, List.getElem?_cons_succ] at d0 d1 d2 d3
        have e0 := cell_of_blk HU.out.at_.res 0
        have e1 := cell_of_blk HU.out.at_.res 1
        have e2 := cell_of_blk HU.out.at_.res 2
        have e3 := cell_of_blk HU.out.at_.res 3
        simp only [zero4, List.getElem?_toArray, List.getElem?_cons_zero, List.getElem?_cons_succ] at e0 e1 e2 e3
        have f0 := frozen_of_blk HU.out.at_.res 0
        have f1 := frozen_of_blk HU.out.at_.res 1
        have f2 := frozen_of_blk HU.out.at_.res 2
        have f3 := frozen_of_blk HU.out.at_.res 3
        go_region
        go_wp2
        exact bodyPost_ret (v := .tuple #[.int .i64 (k), .agg #[.int .i64 x0, .int .i64 x1, .int .i64 x2, .int .i64 x3], .bool false]) (by simp [results, Try.results19, go_sem, e0, e1, e2, e3]) rfl ⟨rfl, HU.out.at_.fin _ _ _ _⟩
    · rcases ho' with rfl | rfl | rfl | rfl
      · have HA := hid (HAA.out (Or.inl rfl))
        show Calls _ _ #[_, _, _, .agg #[.int .i64 x0, .int .i64 x1, .int .i64 x2, .int .i64 x3]] _ _
        go_enter Try.func19, Try.ntmps19
        go_upto_region 1 with fail
        refine wp_rename (fun W => NxAt w ⟨x0, x1, x2, x3⟩ W) HX.out ?_
        intro W hW
        have HW := hid hW
        clear hW HX
        have hq := HPS.out.keep (HW.out.below.block b HB.out)
        obtain ⟨p0, p1, p2, p3, p4⟩ := hq
        dsimp only at p0 p1 p2 p3 p4
        go_upto_region 3 with (first | (go_at_call 12; refine (MayInstr_any ⟨18, ia, ib, ic, iN⟩ _).mono ?_; rintro e w1 ⟨rfl, hb1⟩; have HB1 := hid hb1; have hq1 := HPS.out.keep ((bthen HW.out.below hb1).block b HB.out); obtain ⟨r0, _, _, _, _⟩ := hq1; dsimp only at r0; clear hb1) | (go_at_call 14; refine (refLocal_any _ _).mono ?_; rintro e w' ⟨rfl, rfl⟩))
        refine wp_rename (fun V => NxAt w ⟨x0, x1, x2, x3⟩ V) (HW.out.keep HB1.out) ?_
        intro V hV
        have HV := hid hV
        clear hV p0 p1 p2 p3 p4 r0
        have hq := HPS.out.keep (HV.out.below.block b HB.out)
        obtain ⟨p0, p1, p2, p3, p4⟩ := hq
        dsimp only at p0 p1 p2 p3 p4
        go_upto_region 4 with fail
        refine wp_rename (fun U => NxMid w ⟨x0, x1, x2, x3⟩ ⟨18, ia, ib, ic, iN⟩ V.heap.size U) (HV.out.boxed _) ?_
        intro U hU
        have HU := hid hU
        clear hU p0 p1 p2 p3 p4
        have g0 := cell_of_blk HU.out.box 0
        have g1 := cell_of_blk HU.out.box 1
        have g2 := cell_of_blk HU.out.box 2
        have g3 := cell_of_blk HU.out.box 3
        have g4 := cell_of_blk HU.out.box 4
        simp only [Ins.cs, List.getElem?_toArray, List.getElem?_cons_zero, List.getElem?_cons_succ] at g0 g1 g2 g3 g4
        have lt1 := lt_of_block HU.out.box
        have lt2 := lt_of_block HU.out.at_.regs
        obtain ⟨y, hy⟩ : ∃ y, Rg.get ⟨x0, x1, x2, x3⟩ ia = y := ⟨_, rfl⟩
        have ca := Rg.cell HU.out.at_.regs HA.out.1 HA.out.2
        rw [hy] at ca
        by_cases hz : y = 0
        · subst hz
          have m0 := (World.cell?_of_block (a := ⟨b', off' + k, none⟩) (HU.out.at_.below.block b' HB'.out)).trans HC'.out
          go_upto_region 7 with fail
          clear m0
          have d0 := cell_of_blk HU.out.at_.regs 0
          have d1 := cell_of_blk HU.out.at_.regs 1
          have d2 := cell_of_blk HU.out.at_.regs 2
          have d3 := cell_of_blk HU.out.at_.regs 3
          simp only [Rg.cs, List.getElem?_toArray, List.getElem?_cons_zero, List.getElem?_cons_succ] at d0 d1 d2 d3
          have e0 := cell_of_blk HU.out.at_.res 0
          have e1 := cell_of_blk HU.out.at_.res 1
          have e2 := cell_of_blk HU.out.at_.res 2
          have e3 := cell_of_blk HU.out.at_.res 3
          simp only [zero4, List.getElem?_toArray, List.getElem?_cons_zero, List.getElem?_cons_succ] at e0 e1 e2 e3
          have f0 := frozen_of_blk HU.out.at_.res 0
          have f1 := frozen_of_blk HU.out.at_.res 1
          have f2 := frozen_of_blk HU.out.at_.res 2
          have f3 := frozen_of_blk HU.out.at_.res 3
          go_region
          go_wp2
          exact bodyPost_ret (v := .tuple #[.int .i64 (k), .agg #[.int .i64 x0, .int .i64 x1, .int .i64 x2, .int .i64 x3], .bool false]) (by simp [results, Try.results19, go_sem, e0, e1, e2, e3]) rfl ⟨rfl, HU.out.at_.fin _ _ _ _⟩
        · have z1 : (y == 0) = false := by simpa using hz
          clear hz
          have m0 := (World.cell?_of_block (a := ⟨b', off' + k, none⟩) (HU.out.at_.below.block b' HB'.out)).trans HC'.out
          go_upto_region 7 with fail
          clear m0
          have d0 := cell_of_blk HU.out.at_.regs 0
          have d1 := cell_of_blk HU.out.at_.regs 1
          have d2 := cell_of_blk HU.out.at_.regs 2
          have d3 := cell_of_blk HU.out.at_.regs 3
          simp only [Rg.cs, List.getElem?_toArray, List.getElem?_cons_zero, List.getElem?_cons_succ] at d0 d1 d2 d3
          have e0 := cell_of_blk HU.out.at_.res 0
          have e1 := cell_of_blk HU.out.at_.res 1
          have e2 := cell_of_blk HU.out.at_.res 2
          have e3 := cell_of_blk HU.out.at_.res 3
          simp only [zero4, List.getElem?_toArray, List.getElem?_cons_zero, List.getElem?_cons_succ] at e0 e1 e2 e3
          have f0 := frozen_of_blk HU.out.at_.res 0
          have f1 := frozen_of_blk HU.out.at_.res 1
          have f2 := frozen_of_blk HU.out.at_.res 2
          have f3 := frozen_of_blk HU.out.at_.res 3
          go_region
          go_wp2
          exact bodyPost_ret (v := .tuple #[.int .i64 (k), .agg #[.int .i64 x0, .int .i64 x1, .int .i64 x2, .int .i64 x3], .bool false]) (by simp [results, Try.results19, go_sem, e0, e1, e2, e3]) rfl ⟨rfl, HU.out.at_.fin _ _ _ _⟩
      · show Calls _ _ #[_, _, _, .agg #[.int .i64 x0, .int .i64 x1, .int .i64 x2, .int .i64 x3]] _ _
        go_enter Try.func19, Try.ntmps19
        go_upto_region 1 with fail
        refine wp_rename (fun W => NxAt w ⟨x0, x1, x2, x3⟩ W) HX.out ?_
        intro W hW
        have HW := hid hW
        clear hW HX
        have hq := HPS.out.keep (HW.out.below.block b HB.out)
        obtain ⟨p0, p1, p2, p3, p4⟩ := hq
        dsimp only at p0 p1 p2 p3 p4
        go_upto_region 3 with (first | (go_at_call 12; refine (MayInstr_any ⟨19, ia, ib, ic, iN⟩ _).mono ?_; rintro e w1 ⟨rfl, hb1⟩; have HB1 := hid hb1; have hq1 := HPS.out.keep ((bthen HW.out.below hb1).block b HB.out); obtain ⟨r0, _, _, _, _⟩ := hq1; dsimp only at r0; clear hb1) | (go_at_call 14; refine (refLocal_any _ _).mono ?_; rintro e w' ⟨rfl, rfl⟩))
        refine wp_rename (fun V => NxAt w ⟨x0, x1, x2, x3⟩ V) (HW.out.keep HB1.out) ?_
        intro V hV
        have HV := hid hV
        clear hV p0 p1 p2 p3 p4 r0
        have hq := HPS.out.keep (HV.out.below.block b HB.out)
        obtain ⟨p0, p1, p2, p3, p4⟩ := hq
        dsimp only at p0 p1 p2 p3 p4
        go_upto_region 4 with fail
        refine wp_rename (fun U => NxMid w ⟨x0, x1, x2, x3⟩ ⟨19, ia, ib, ic, iN⟩ V.heap.size U) (HV.out.boxed _) ?_
        intro U hU
        have HU := hid hU
        clear hU p0 p1 p2 p3 p4
        have g0 := cell_of_blk HU.out.box 0
        have g1 := cell_of_blk HU.out.box 1
        have g2 := cell_of_blk HU.out.box 2
        have g3 := cell_of_blk HU.out.box 3
        have g4 := cell_of_blk HU.out.box 4
        simp only [Ins.cs, List.getElem?_toArray, List.getElem?_cons_zero, List.getElem?_cons_succ] at g0 g1 g2 g3 g4
        have lt1 := lt_of_block HU.out.box
        have lt2 := lt_of_block HU.out.at_.regs
        have m0 := (World.cell?_of_block (a := ⟨b', off' + k, none⟩) (HU.out.at_.below.block b' HB'.out)).trans HC'.out
        go_upto_region 7 with fail
        clear m0
        have d0 := cell_of_blk HU.out.at_.regs 0
        have d1 := cell_of_blk HU.out.at_.regs 1
        have d2 := cell_of_blk HU.out.at_.regs 2
        have d3 := cell_of_blk HU.out.at_.regs 3
        simp only [Rg.cs, List.getElem?_toArray, List.getElem?_cons_zero, List.getElem?_cons_succ] at d0 d1 d2 d3
        have e0 := cell_of_blk HU.out.at_.res 0
        have e1 := cell_of_blk HU.out.at_.res 1
        have e2 := cell_of_blk HU.out.at_.res 2
        have e3 := cell_of_blk HU.out.at_.res 3
        simp only [zero4, List.getElem?_toArray, List.getElem?_cons_zero, List.getElem?_cons_succ] at e0 e1 e2 e3
        have f0 := frozen_of_blk HU.out.at_.res 0
        have f1 := frozen_of_blk HU.out.at_.res 1
        have f2 := frozen_of_blk HU.out.at_.res 2
        have f3 := frozen_of_blk HU.out.at_.res 3
        go_region
        go_wp2
        exact bodyPost_ret (v := .tuple #[.int .i64 (k), .agg #[.int .i64 x0, .int .i64 x1, .int .i64 x2, .int .i64 x3], .bool false]) (by simp [results, Try.results19, go_sem, e0, e1, e2, e3]) rfl ⟨rfl, HU.out.at_.fin _ _ _ _⟩
      · have HA := hid (HAA.out (Or.inr rfl))
        show Calls _ _ #[_, _, _, .agg #[.int .i64 x0, .int .i64 x1, .int .i64 x2, .int .i64 x3]] _ _
        go_enter Try.func19, Try.ntmps19
        go_upto_region 1 with fail
        refine wp_rename (fun W => NxAt w ⟨x0, x1, x2, x3⟩ W) HX.out ?_
        intro W hW
        have HW := hid hW
        clear hW HX
        have hq := HPS.out.keep (HW.out.below.block b HB.out)
        obtain ⟨p0, p1, p2, p3, p4⟩ := hq
        dsimp only at p0 p1 p2 p3 p4
        go_upto_region 3 with (first | (go_at_call 12; refine (MayInstr_any ⟨21, ia, ib, ic, iN⟩ _).mono ?_; rintro e w1 ⟨rfl, hb1⟩; have HB1 := hid hb1; have hq1 := HPS.out.keep ((bthen HW.out.below hb1).block b HB.out); obtain ⟨r0, _, _, _, _⟩ := hq1; dsimp only at r0; clear hb1) | (go_at_call 14; refine (refLocal_any _ _).mono ?_; rintro e w' ⟨rfl, rfl⟩))
        refine wp_rename (fun V => NxAt w ⟨x0, x1, x2, x3⟩ V) (HW.out.keep HB1.out) ?_
        intro V hV
        have HV := hid hV
        clear hV p0 p1 p2 p3 p4 r0
        have hq := HPS.out.keep (HV.out.below.block b HB.out)
        obtain ⟨p0, p1, p2, p3, p4⟩ := hq
        dsimp only at p0 p1 p2 p3 p4
        go_upto_region 4 with fail
        refine wp_rename (fun U => NxMid w ⟨x0, x1, x2, x3⟩ ⟨21, ia, ib, ic, iN⟩ V.heap.size U) (HV.out.boxed _) ?_
        intro U hU
        have HU := hid hU
        clear hU p0 p1 p2 p3 p4
        have g0 := cell_of_blk HU.out.box 0
        have g1 := cell_of_blk HU.out.box 1
        have g2 := cell_of_blk HU.out.box 2
        have g3 := cell_of_blk HU.out.box 3
        have g4 := cell_of_blk HU.out.box 4
        simp only [Ins.cs, List.getElem?_toArray, List.getElem?_cons_zero, List.getElem?_cons_succ] at g0 g1 g2 g3 g4
        have lt1 := lt_of_block HU.out.box
        have lt2 := lt_of_block HU.out.at_.regs
        obtain ⟨y, hy⟩ : ∃ y, Rg.get ⟨x0, x1, x2, x3⟩ ia = y := ⟨_, rfl⟩
        have ca := Rg.cell HU.out.at_.regs HA.out.1 HA.out.2
        rw [hy] at ca
        by_cases hz : y = 0
        · subst hz
          have m0 := (World.cell?_of_block (a := ⟨b', off' + k, none⟩) (HU.out.at_.below.block b' HB'.out)).trans HC'.out
          go_upto_region 7 with fail
          clear m0
          have d0 := cell_of_blk HU.out.at_.regs 0
          have d1 := cell_of_blk HU.out.at_.regs 1
          have d2 := cell_of_blk HU.out.at_.regs 2
          have d3 := cell_of_blk HU.out.at_.regs 3
          simp only [Rg.cs, List.getElem?_toArray, List.getElem?_cons_zero, List.getElem?_cons_succ] at d0 d1 d2 d3
          have e0 := cell_of_blk HU.out.at_.res 0
          have e1 := cell_of_blk HU.out.at_.res 1
          have e2 := cell_of_blk HU.out.at_.res 2
          have e3 := cell_of_blk HU.out.at_.res 3
          simp only [zero4, List.getElem?_toArray, List.getElem?_cons_zero, List.getElem?_cons_succ] at e0 e1 e2 e3
          have f0 := frozen_of_blk HU.out.at_.res 0
          have f1 := frozen_of_blk HU.out.at_.res 1
          have f2 := frozen_of_blk HU.out.at_.res 2
          have f3 := frozen_of_blk HU.out.at_.res 3
          go_region
          go_wp2
          exact bodyPost_ret (v := .tuple #[.int .i64 (k), .agg #[.int .i64 x0, .int .i64 x1, .int .i64 x2, .int .i64 x3], .bool false]) (by simp [results, Try.results19, go_sem, e0, e1, e2, e3]) rfl ⟨rfl, HU.out.at_.fin _ _ _ _⟩
        · have z1 : (y == 0) = false := by simpa using hz
          clear hz
          have m0 := (World.cell?_of_block (a := ⟨b', off' + k, none⟩) (HU.out.at_.below.block b' HB'.out)).trans HC'.out
          go_upto_region 7 with fail
          clear m0
          have d0 := cell_of_blk HU.out.at_.regs 0
          have d1 := cell_of_blk HU.out.at_.regs 1
          have d2 := cell_of_blk HU.out.at_.regs 2
          have d3 := cell_of_blk HU.out.at_.regs 3
          simp only [Rg.cs, List.getElem?_toArray, List.getElem?_cons_zero, List.getElem?_cons_succ] at d0 d1 d2 d3
          have e0 := cell_of_blk HU.out.at_.res 0
          have e1 := cell_of_blk HU.out.at_.res 1
          have e2 := cell_of_blk HU.out.at_.res 2
          have e3 := cell_of_blk HU.out.at_.res 3
          simp only [zero4, List.getElem?_toArray, List.getElem?_cons_zero, List.getElem?_cons_succ] at e0 e1 e2 e3
          have f0 := frozen_of_blk HU.out.at_.res 0
          have f1 := frozen_of_blk HU.out.at_.res 1
          have f2 := frozen_of_blk HU.out.at_.res 2
          have f3 := frozen_of_blk HU.out.at_.res 3
          go_region
          go_wp2
          exact bodyPost_ret (v := .tuple #[.int .i64 (k), .agg #[.int .i64 x0, .int .i64 x1, .int .i64 x2, .int .i64 x3], .bool false]) (by simp [results, Try.results19, go_sem, e0, e1, e2, e3]) rfl ⟨rfl, HU.out.at_.fin _ _ _ _⟩
      · show Calls _ _ #[_, _, _, .agg #[.int .i64 x0, .int .i64 x1, .int .i64 x2, .int .i64 x3]] _ _
        go_enter Try.func19, Try.ntmps19
        go_upto_region 1 with fail
        refine wp_rename (fun W => NxAt w ⟨x0, x1, x2, x3⟩ W) HX.out ?_
        intro W hW
        have HW := hid hW
        clear hW HX
        have hq := HPS.out.keep (HW.out.below.block b HB.out)
        obtain ⟨p0, p1, p2, p3, p4⟩ := hq
        dsimp only at p0 p1 p2 p3 p4
        go_upto_region 3 with (first | (go_at_call 12; refine (MayInstr_any ⟨22, ia, ib, ic, iN⟩ _).mono ?_; rintro e w1 ⟨rfl, hb1⟩; have HB1 := hid hb1; have hq1 := HPS.out.keep ((bthen HW.out.below hb1).block b HB.out); obtain ⟨r0, _, _, _, _⟩ := hq1; dsimp only at r0; clear hb1) | (go_at_call 14; refine (refLocal_any _ _).mono ?_; rintro e w' ⟨rfl, rfl⟩))
        refine wp_rename (fun V => NxAt w ⟨x0, x1, x2, x3⟩ V) (HW.out.keep HB1.out) ?_
        intro V hV
        have HV := hid hV
        clear hV p0 p1 p2 p3 p4 r0
        have hq := HPS.out.keep (HV.out.below.block b HB.out)
        obtain ⟨p0, p1, p2, p3, p4⟩ := hq
        dsimp only at p0 p1 p2 p3 p4
        go_upto_region 4 with fail
        refine wp_rename (fun U => NxMid w ⟨x0, x1, x2, x3⟩ ⟨22, ia, ib, ic, iN⟩ V.heap.size U) (HV.out.boxed _) ?_
        intro U hU
        have HU := hid hU
        clear hU p0 p1 p2 p3 p4
        have g0 := cell_of_blk HU.out.box 0
        have g1 := cell_of_blk HU.out.box 1
        have g2 := cell_of_blk HU.out.box 2
        have g3 := cell_of_blk HU.out.box 3
        have g4 := cell_of_blk HU.out.box 4
        simp only [Ins.cs, List.getElem?_toArray, List.getElem?_cons_zero, List.getElem?_cons_succ] at g0 g1 g2 g3 g4
        have lt1 := lt_of_block HU.out.box
        have lt2 := lt_of_block HU.out.at_.regs
        have m0 := (World.cell?_of_block (a := ⟨b', off' + k, none⟩) (HU.out.at_.below.block b' HB'.out)).trans HC'.out
        go_upto_region 7 with fail
        clear m0
        have d0 := cell_of_blk HU.out.at_.regs 0
        have d1 := cell_of_blk HU.out.at_.regs 1
        have d2 := cell_of_blk HU.out.at_.regs 2
        have d3 := cell_of_blk HU.out.at_.regs 3
        simp only [Rg.cs, List.getElem?_toArray, List.getElem?_cons_zero, List.getElem?_cons_succ] at d0 d1 d2 d3
        have e0 := cell_of_blk HU.out.at_.res 0
        have e1 := cell_of_blk HU.out.at_.res 1
        have e2 := cell_of_blk HU.out.at_.res 2
        have e3 := cell_of_blk HU.out.at_.res 3
        simp only [zero4, List.getElem?_toArray, List.getElem?_cons_zero, List.getElem?_cons_succ] at e0 e1 e2 e3
        have f0 := frozen_of_blk HU.out.at_.res 0
        have f1 := frozen_of_blk HU.out.at_.res 1
        have f2 := frozen_of_blk HU.out.at_.res 2
        have f3 := frozen_of_blk HU.out.at_.res 3
        go_region
        go_wp2
        exact bodyPost_ret (v := .tuple #[.int .i64 (k), .agg #[.int .i64 x0, .int .i64 x1, .int .i64 x2, .int .i64 x3], .bool false]) (by simp [results, Try.results19, go_sem, e0, e1, e2, e3]) rfl ⟨rfl, HU.out.at_.fin _ _ _ _⟩

end Go.Proofs.Ytjnpfjalgjecnaa
