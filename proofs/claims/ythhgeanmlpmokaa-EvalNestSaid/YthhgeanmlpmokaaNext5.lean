/-
  eval.Next, at a jump and at a sum.
-/
import Derived.Test.YthhgeanmlpmokaaNext4
namespace Go.Proofs.Ythhgeanmlpmokaa
open Go.RowKit
set_option linter.unusedVariables false
attribute [local go_sem] Later.cell Later.frozen

set_option maxRecDepth 100000 in
set_option maxHeartbeats 4000000 in
theorem Next_lost (a a' : Option Addr) (n c m c' k : Nat) (ps : List Ins) (ms : List Int) (i : Ins) (r : Rg) (w : World) (hr : InsRow w a n ps) (hn : n ≤ 100000) (hk : k < n) (hi : ps[k]? = some i) (hm : IntRow w a' m ms) (h1 : localB i.op = true) (h2 : mayB i = true) (ho : jumpB i.op = true) (hx : amongB (k : Int) m = false ∨ amongB (k : Int) m = true ∧ amongB (ms.getD k 0) n = false) :
    Calls Try.prog 6 #[.slice a n c, .slice a' m c', .int .i64 (k : Int), r.v] w (NextRet ((k : Int), r, false) w) := by
  have hmc : ∀ (_ : amongB (k : Int) m = true), ∃ b' off', a' = some ⟨b', off', none⟩ ∧ b' < w.heap.size ∧ w.cell? ⟨b', off' + k, none⟩ = some (.int .i64 (ms.getD k 0)) := fun h => by
    have hlt := (amongB_iff.1 h).2
    obtain ⟨b', off', e, e2, e3⟩ := hm.at (by omega)
    exact ⟨b', off', e, e2, e3 k (by omega)⟩
  have HMC := hid hmc
  clear hmc hm
  obtain ⟨x, hxx⟩ : ∃ x, ms.getD k 0 = x := ⟨_, rfl⟩
  rw [hxx] at hx HMC
  clear hxx
  obtain ⟨b, off, rfl, hb, hps⟩ := hr.at (by omega)
  have HX := hid (NxAt.new w r)
  obtain ⟨x0, x1, x2, x3⟩ := r
  obtain ⟨op, ia, ib, ic, iN⟩ := i
  have hAt := hps k _ hi
  have HPS := hid hAt
  have HB := hid hb
  have hA := amongB_yes (n := (k : Int)) (m := (n : Int)) (by omega) (by omega)
  have i1 : (0 : Int) ≤ (k : Int) := by omega
  have i2 : (k : Int) < (n : Int) := by omega
  clear hps hAt hb hr
  dsimp only at h1 h2 ho
  have ho' := of_decide_eq_true ho
  clear ho
  rcases hx with hx | ⟨hx, hy⟩
  · rcases ho' with rfl | rfl | rfl | rfl
    · show Calls _ _ #[_, _, _, .agg #[.int .i64 x0, .int .i64 x1, .int .i64 x2, .int .i64 x3]] _ _
      go_enter Try.func6, Try.ntmps6
      go_upto_region 1 with fail
      refine wp_rename (fun W => NxAt w ⟨x0, x1, x2, x3⟩ W) HX.out ?_
      intro W hW
      have HW := hid hW
      clear hW HX
      have hq := HPS.out.keep (HW.out.below.block b HB.out)
      obtain ⟨p0, p1, p2, p3, p4⟩ := hq
      dsimp only at p0 p1 p2 p3 p4
      go_upto_region 3 with (first | (go_at_call 9; refine (among_any _ _ _).mono ?_; rintro e w' ⟨rfl, rfl⟩) | (go_at_call 10; refine (Local_any _ _).mono ?_; rintro e w' ⟨rfl, rfl⟩) | (go_at_call 11; refine (May_any ⟨18, ia, ib, ic, iN⟩ _).mono ?_; rintro e w1 ⟨rfl, hb1⟩; have HB1 := hid hb1; clear hb1))
      refine wp_rename (fun V => NxAt w ⟨x0, x1, x2, x3⟩ V) (HW.out.keep HB1.out) ?_
      intro V hV
      have HV := hid hV
      clear hV p0 p1 p2 p3 p4
      have hq := HPS.out.keep (HV.out.below.block b HB.out)
      obtain ⟨p0, p1, p2, p3, p4⟩ := hq
      dsimp only at p0 p1 p2 p3 p4
      go_upto_region 4 with fail
      refine wp_rename (fun U => NxMid w ⟨x0, x1, x2, x3⟩ ⟨18, ia, ib, ic, iN⟩ V.heap.size U) (HV.out.boxed _) ?_
      intro U hU
      have HU := hid hU
      clear hU p0 p1 p2 p3 p4
      have g0 := cell_of_blk HU.out.box 0
      have g1 := cell_of_blk HU.out.box 1
      have g2 := cell_of_blk HU.out.box 2
      have g3 := cell_of_blk HU.out.box 3
      have g4 := cell_of_blk HU.out.box 4
      simp only [Ins.cs, List.getElem?_toArray, List.getElem?_cons_zero, List.getElem?_cons_succ] at g0 g1 g2 g3 g4
      have lt1 := lt_of_block HU.out.box
      have lt2 := lt_of_block HU.out.at_.regs
      go_upto_region 11 with (go_at_call 9; refine (among_any _ _ _).mono ?_; rintro e w' ⟨rfl, rfl⟩)
      have d0 := cell_of_blk HU.out.at_.regs 0
      have d1 := cell_of_blk HU.out.at_.regs 1
      have d2 := cell_of_blk HU.out.at_.regs 2
      have d3 := cell_of_blk HU.out.at_.regs 3
      simp only [Rg.cs, List.getElem?_toArray, List.getElem?_cons_zero, List.getElem?_cons_succ] at d0 d1 d2 d3
      have e0 := cell_of_blk HU.out.at_.res 0
      have e1 := cell_of_blk HU.out.at_.res 1
      have e2 := cell_of_blk HU.out.at_.res 2
      have e3 := cell_of_blk HU.out.at_.res 3
      simp only [zero4, List.getElem?_toArray, List.getElem?_cons_zero, List.getElem?_cons_succ] at e0 e1 e2 e3
      have f0 := frozen_of_blk HU.out.at_.res 0
      have f1 := frozen_of_blk HU.out.at_.res 1
      have f2 := frozen_of_blk HU.out.at_.res 2
      have f3 := frozen_of_blk HU.out.at_.res 3
      go_region
      go_wp2
      exact bodyPost_ret (v := .tuple #[.int .i64 (k), .agg #[.int .i64 x0, .int .i64 x1, .int .i64 x2, .int .i64 x3], .bool false]) (by simp [results, Try.results6, go_sem, e0, e1, e2, e3]) rfl ⟨rfl, HU.out.at_.fin _ _ _ _⟩
    · show Calls _ _ #[_, _, _, .agg #[.int .i64 x0, .int .i64 x1, .int .i64 x2, .int .i64 x3]] _ _
      go_enter Try.func6, Try.ntmps6
      go_upto_region 1 with fail
      refine wp_rename (fun W => NxAt w ⟨x0, x1, x2, x3⟩ W) HX.out ?_
      intro W hW
      have HW := hid hW
      clear hW HX
      have hq := HPS.out.keep (HW.out.below.block b HB.out)
      obtain ⟨p0, p1, p2, p3, p4⟩ := hq
      dsimp only at p0 p1 p2 p3 p4
      go_upto_region 3 with (first | (go_at_call 9; refine (among_any _ _ _).mono ?_; rintro e w' ⟨rfl, rfl⟩) | (go_at_call 10; refine (Local_any _ _).mono ?_; rintro e w' ⟨rfl, rfl⟩) | (go_at_call 11; refine (May_any ⟨19, ia, ib, ic, iN⟩ _).mono ?_; rintro e w1 ⟨rfl, hb1⟩; have HB1 := hid hb1; clear hb1))
      refine wp_rename (fun V => NxAt w ⟨x0, x1, x2, x3⟩ V) (HW.out.keep HB1.out) ?_
      intro V hV
      have HV := hid hV
      clear hV p0 p1 p2 p3 p4
      have hq := HPS.out.keep (HV.out.below.block b HB.out)
      obtain ⟨p0, p1, p2, p3, p4⟩ := hq
      dsimp only at p0 p1 p2 p3 p4
      go_upto_region 4 with fail
      refine wp_rename (fun U => NxMid w ⟨x0, x1, x2, x3⟩ ⟨19, ia, ib, ic, iN⟩ V.heap.size U) (HV.out.boxed _) ?_
      intro U hU
      have HU := hid hU
      clear hU p0 p1 p2 p3 p4
      have g0 := cell_of_blk HU.out.box 0
      have g1 := cell_of_blk HU.out.box 1
      have g2 := cell_of_blk HU.out.box 2
      have g3 := cell_of_blk HU.out.box 3
      have g4 := cell_of_blk HU.out.box 4
      simp only [Ins.cs, List.getElem?_toArray, List.getElem?_cons_zero, List.getElem?_cons_succ] at g0 g1 g2 g3 g4
      have lt1 := lt_of_block HU.out.box
      have lt2 := lt_of_block HU.out.at_.regs
      go_upto_region 11 with (go_at_call 9; refine (among_any _ _ _).mono ?_; rintro e w' ⟨rfl, rfl⟩)
      have d0 := cell_of_blk HU.out.at_.regs 0
      have d1 := cell_of_blk HU.out.at_.regs 1
      have d2 := cell_of_blk HU.out.at_.regs 2
      have d3 := cell_of_blk HU.out.at_.regs 3
      simp only [Rg.cs, List.getElem?_toArray, List.getElem?_cons_zero, List.getElem?_cons_succ] at d0 d1 d2 d3
      have e0 := cell_of_blk HU.out.at_.res 0
      have e1 := cell_of_blk HU.out.at_.res 1
      have e2 := cell_of_blk HU.out.at_.res 2
      have e3 := cell_of_blk HU.out.at_.res 3
      simp only [zero4, List.getElem?_toArray, List.getElem?_cons_zero, List.getElem?_cons_succ] at e0 e1 e2 e3
      have f0 := frozen_of_blk HU.out.at_.res 0
      have f1 := frozen_of_blk HU.out.at_.res 1
      have f2 := frozen_of_blk HU.out.at_.res 2
      have f3 := frozen_of_blk HU.out.at_.res 3
      go_region
      go_wp2
      exact bodyPost_ret (v := .tuple #[.int .i64 (k), .agg #[.int .i64 x0, .int .i64 x1, .int .i64 x2, .int .i64 x3], .bool false]) (by simp [results, Try.results6, go_sem, e0, e1, e2, e3]) rfl ⟨rfl, HU.out.at_.fin _ _ _ _⟩
    · show Calls _ _ #[_, _, _, .agg #[.int .i64 x0, .int .i64 x1, .int .i64 x2, .int .i64 x3]] _ _
      go_enter Try.func6, Try.ntmps6
      go_upto_region 1 with fail
      refine wp_rename (fun W => NxAt w ⟨x0, x1, x2, x3⟩ W) HX.out ?_
      intro W hW
      have HW := hid hW
      clear hW HX
      have hq := HPS.out.keep (HW.out.below.block b HB.out)
      obtain ⟨p0, p1, p2, p3, p4⟩ := hq
      dsimp only at p0 p1 p2 p3 p4
      go_upto_region 3 with (first | (go_at_call 9; refine (among_any _ _ _).mono ?_; rintro e w' ⟨rfl, rfl⟩) | (go_at_call 10; refine (Local_any _ _).mono ?_; rintro e w' ⟨rfl, rfl⟩) | (go_at_call 11; refine (May_any ⟨21, ia, ib, ic, iN⟩ _).mono ?_; rintro e w1 ⟨rfl, hb1⟩; have HB1 := hid hb1; clear hb1))
      refine wp_rename (fun V => NxAt w ⟨x0, x1, x2, x3⟩ V) (HW.out.keep HB1.out) ?_
      intro V hV
      have HV := hid hV
      clear hV p0 p1 p2 p3 p4
      have hq := HPS.out.keep (HV.out.below.block b HB.out)
      obtain ⟨p0, p1, p2, p3, p4⟩ := hq
      dsimp only at p0 p1 p2 p3 p4
      go_upto_region 4 with fail
      refine wp_rename (fun U => NxMid w ⟨x0, x1, x2, x3⟩ ⟨21, ia, ib, ic, iN⟩ V.heap.size U) (HV.out.boxed _) ?_
      intro U hU
      have HU := hid hU
      clear hU p0 p1 p2 p3 p4
      have g0 := cell_of_blk HU.out.box 0
      have g1 := cell_of_blk HU.out.box 1
      have g2 := cell_of_blk HU.out.box 2
      have g3 := cell_of_blk HU.out.box 3
      have g4 := cell_of_blk HU.out.box 4
      simp only [Ins.cs, List.getElem?_toArray, List.getElem?_cons_zero, List.getElem?_cons_succ] at g0 g1 g2 g3 g4
      have lt1 := lt_of_block HU.out.box
      have lt2 := lt_of_block HU.out.at_.regs
      go_upto_region 11 with (go_at_call 9; refine (among_any _ _ _).mono ?_; rintro e w' ⟨rfl, rfl⟩)
      have d0 := cell_of_blk HU.out.at_.regs 0
      have d1 := cell_of_blk HU.out.at_.regs 1
      have d2 := cell_of_blk HU.out.at_.regs 2
      have d3 := cell_of_blk HU.out.at_.regs 3
      simp only [Rg.cs, List.getElem?_toArray, List.getElem?_cons_zero, List.getElem?_cons_succ] at d0 d1 d2 d3
      have e0 := cell_of_blk HU.out.at_.res 0
      have e1 := cell_of_blk HU.out.at_.res 1
      have e2 := cell_of_blk HU.out.at_.res 2
      have e3 := cell_of_blk HU.out.at_.res 3
      simp only [zero4, List.getElem?_toArray, List.getElem?_cons_zero, List.getElem?_cons_succ] at e0 e1 e2 e3
      have f0 := frozen_of_blk HU.out.at_.res 0
      have f1 := frozen_of_blk HU.out.at_.res 1
      have f2 := frozen_of_blk HU.out.at_.res 2
      have f3 := frozen_of_blk HU.out.at_.res 3
      go_region
      go_wp2
      exact bodyPost_ret (v := .tuple #[.int .i64 (k), .agg #[.int .i64 x0, .int .i64 x1, .int .i64 x2, .int .i64 x3], .bool false]) (by simp [results, Try.results6, go_sem, e0, e1, e2, e3]) rfl ⟨rfl, HU.out.at_.fin _ _ _ _⟩
    · show Calls _ _ #[_, _, _, .agg #[.int .i64 x0, .int .i64 x1, .int .i64 x2, .int .i64 x3]] _ _
      go_enter Try.func6, Try.ntmps6
      go_upto_region 1 with fail
      refine wp_rename (fun W => NxAt w ⟨x0, x1, x2, x3⟩ W) HX.out ?_
      intro W hW
      have HW := hid hW
      clear hW HX
      have hq := HPS.out.keep (HW.out.below.block b HB.out)
      obtain ⟨p0, p1, p2, p3, p4⟩ := hq
      dsimp only at p0 p1 p2 p3 p4
      go_upto_region 3 with (first | (go_at_call 9; refine (among_any _ _ _).mono ?_; rintro e w' ⟨rfl, rfl⟩) | (go_at_call 10; refine (Local_any _ _).mono ?_; rintro e w' ⟨rfl, rfl⟩) | (go_at_call 11; refine (May_any ⟨22, ia, ib, ic, iN⟩ _).mono ?_; rintro e w1 ⟨rfl, hb1⟩; have HB1 := hid hb1; clear hb1))
      refine wp_rename (fun V => NxAt w ⟨x0, x1, x2, x3⟩ V) (HW.out.keep HB1.out) ?_
      intro V hV
      have HV := hid hV
      clear hV p0 p1 p2 p3 p4
      have hq := HPS.out.keep (HV.out.below.block b HB.out)
      obtain ⟨p0, p1, p2, p3, p4⟩ := hq
      dsimp only at p0 p1 p2 p3 p4
      go_upto_region 4 with fail
      refine wp_rename (fun U => NxMid w ⟨x0, x1, x2, x3⟩ ⟨22, ia, ib, ic, iN⟩ V.heap.size U) (HV.out.boxed _) ?_
      intro U hU
      have HU := hid hU
      clear hU p0 p1 p2 p3 p4
      have g0 := cell_of_blk HU.out.box 0
      have g1 := cell_of_blk HU.out.box 1
      have g2 := cell_of_blk HU.out.box 2
      have g3 := cell_of_blk HU.out.box 3
      have g4 := cell_of_blk HU.out.box 4
      simp only [Ins.cs, List.getElem?_toArray, List.getElem?_cons_zero, List.getElem?_cons_succ] at g0 g1 g2 g3 g4
      have lt1 := lt_of_block HU.out.box
      have lt2 := lt_of_block HU.out.at_.regs
      go_upto_region 11 with (go_at_call 9; refine (among_any _ _ _).mono ?_; rintro e w' ⟨rfl, rfl⟩)
      have d0 := cell_of_blk HU.out.at_.regs 0
      have d1 := cell_of_blk HU.out.at_.regs 1
      have d2 := cell_of_blk HU.out.at_.regs 2
      have d3 := cell_of_blk HU.out.at_.regs 3
      simp only [Rg.cs, List.getElem?_toArray, List.getElem?_cons_zero, List.getElem?_cons_succ] at d0 d1 d2 d3
      have e0 := cell_of_blk HU.out.at_.res 0
      have e1 := cell_of_blk HU.out.at_.res 1
      have e2 := cell_of_blk HU.out.at_.res 2
      have e3 := cell_of_blk HU.out.at_.res 3
      simp only [zero4, List.getElem?_toArray, List.getElem?_cons_zero, List.getElem?_cons_succ] at e0 e1 e2 e3
      have f0 := frozen_of_blk HU.out.at_.res 0
      have f1 := frozen_of_blk HU.out.at_.res 1
      have f2 := frozen_of_blk HU.out.at_.res 2
      have f3 := frozen_of_blk HU.out.at_.res 3
      go_region
      go_wp2
      exact bodyPost_ret (v := .tuple #[.int .i64 (k), .agg #[.int .i64 x0, .int .i64 x1, .int .i64 x2, .int .i64 x3], .bool false]) (by simp [results, Try.results6, go_sem, e0, e1, e2, e3]) rfl ⟨rfl, HU.out.at_.fin _ _ _ _⟩
  · obtain ⟨b', off', rfl, hb', hc'⟩ := HMC.out hx
    have HB' := hid hb'
    have HC' := hid hc'
    have i3 : (k : Int) < (m : Int) := (amongB_iff.1 hx).2
    clear hb' hc' HMC
    rcases ho' with rfl | rfl | rfl | rfl
    · show Calls _ _ #[_, _, _, .agg #[.int .i64 x0, .int .i64 x1, .int .i64 x2, .int .i64 x3]] _ _
      go_enter Try.func6, Try.ntmps6
      go_upto_region 1 with fail
      refine wp_rename (fun W => NxAt w ⟨x0, x1, x2, x3⟩ W) HX.out ?_
      intro W hW
      have HW := hid hW
      clear hW HX
      have hq := HPS.out.keep (HW.out.below.block b HB.out)
      obtain ⟨p0, p1, p2, p3, p4⟩ := hq
      dsimp only at p0 p1 p2 p3 p4
      go_upto_region 3 with (first | (go_at_call 9; refine (among_any _ _ _).mono ?_; rintro e w' ⟨rfl, rfl⟩) | (go_at_call 10; refine (Local_any _ _).mono ?_; rintro e w' ⟨rfl, rfl⟩) | (go_at_call 11; refine (May_any ⟨18, ia, ib, ic, iN⟩ _).mono ?_; rintro e w1 ⟨rfl, hb1⟩; have HB1 := hid hb1; clear hb1))
      refine wp_rename (fun V => NxAt w ⟨x0, x1, x2, x3⟩ V) (HW.out.keep HB1.out) ?_
      intro V hV
      have HV := hid hV
      clear hV p0 p1 p2 p3 p4
      have hq := HPS.out.keep (HV.out.below.block b HB.out)
      obtain ⟨p0, p1, p2, p3, p4⟩ := hq
      dsimp only at p0 p1 p2 p3 p4
      go_upto_region 4 with fail
      refine wp_rename (fun U => NxMid w ⟨x0, x1, x2, x3⟩ ⟨18, ia, ib, ic, iN⟩ V.heap.size U) (HV.out.boxed _) ?_
      intro U hU
      have HU := hid hU
      clear hU p0 p1 p2 p3 p4
      have g0 := cell_of_blk HU.out.box 0
      have g1 := cell_of_blk HU.out.box 1
      have g2 := cell_of_blk HU.out.box 2
      have g3 := cell_of_blk HU.out.box 3
      have g4 := cell_of_blk HU.out.box 4
      simp only [Ins.cs, List.getElem?_toArray, List.getElem?_cons_zero, List.getElem?_cons_succ] at g0 g1 g2 g3 g4
      have lt1 := lt_of_block HU.out.box
      have lt2 := lt_of_block HU.out.at_.regs
      have m0 := (World.cell?_of_block (a := ⟨b', off' + k, none⟩) (HU.out.at_.below.block b' HB'.out)).trans HC'.out
      go_upto_region 11 with (go_at_call 9; refine (among_any _ _ _).mono ?_; rintro e w' ⟨rfl, rfl⟩)
      clear m0
      have d0 := cell_of_blk HU.out.at_.regs 0
      have d1 := cell_of_blk HU.out.at_.regs 1
      have d2 := cell_of_blk HU.out.at_.regs 2
      have d3 := cell_of_blk HU.out.at_.regs 3
      simp only [Rg.cs, List.getElem?_toArray, List.getElem?_cons_zero, List.getElem?_cons_succ] at d0 d1 d2 d3
      have e0 := cell_of_blk HU.out.at_.res 0
      have e1 := cell_of_blk HU.out.at_.res 1
      have e2 := cell_of_blk HU.out.at_.res 2
      have e3 := cell_of_blk HU.out.at_.res 3
      simp only [zero4, List.getElem?_toArray, List.getElem?_cons_zero, List.getElem?_cons_succ] at e0 e1 e2 e3
      have f0 := frozen_of_blk HU.out.at_.res 0
      have f1 := frozen_of_blk HU.out.at_.res 1
      have f2 := frozen_of_blk HU.out.at_.res 2
      have f3 := frozen_of_blk HU.out.at_.res 3
      go_region
      go_wp2
      exact bodyPost_ret (v := .tuple #[.int .i64 (k), .agg #[.int .i64 x0, .int .i64 x1, .int .i64 x2, .int .i64 x3], .bool false]) (by simp [results, Try.results6, go_sem, e0, e1, e2, e3]) rfl ⟨rfl, HU.out.at_.fin _ _ _ _⟩
    · show Calls _ _ #[_, _, _, .agg #[.int .i64 x0, .int .i64 x1, .int .i64 x2, .int .i64 x3]] _ _
      go_enter Try.func6, Try.ntmps6
      go_upto_region 1 with fail
      refine wp_rename (fun W => NxAt w ⟨x0, x1, x2, x3⟩ W) HX.out ?_
      intro W hW
      have HW := hid hW
      clear hW HX
      have hq := HPS.out.keep (HW.out.below.block b HB.out)
      obtain ⟨p0, p1, p2, p3, p4⟩ := hq
      dsimp only at p0 p1 p2 p3 p4
      go_upto_region 3 with (first | (go_at_call 9; refine (among_any _ _ _).mono ?_; rintro e w' ⟨rfl, rfl⟩) | (go_at_call 10; refine (Local_any _ _).mono ?_; rintro e w' ⟨rfl, rfl⟩) | (go_at_call 11; refine (May_any ⟨19, ia, ib, ic, iN⟩ _).mono ?_; rintro e w1 ⟨rfl, hb1⟩; have HB1 := hid hb1; clear hb1))
      refine wp_rename (fun V => NxAt w ⟨x0, x1, x2, x3⟩ V) (HW.out.keep HB1.out) ?_
      intro V hV
      have HV := hid hV
      clear hV p0 p1 p2 p3 p4
      have hq := HPS.out.keep (HV.out.below.block b HB.out)
      obtain ⟨p0, p1, p2, p3, p4⟩ := hq
      dsimp only at p0 p1 p2 p3 p4
      go_upto_region 4 with fail
      refine wp_rename (fun U => NxMid w ⟨x0, x1, x2, x3⟩ ⟨19, ia, ib, ic, iN⟩ V.heap.size U) (HV.out.boxed _) ?_
      intro U hU
      have HU := hid hU
      clear hU p0 p1 p2 p3 p4
      have g0 := cell_of_blk HU.out.box 0
      have g1 := cell_of_blk HU.out.box 1
      have g2 := cell_of_blk HU.out.box 2
      have g3 := cell_of_blk HU.out.box 3
      have g4 := cell_of_blk HU.out.box 4
      simp only [Ins.cs, List.getElem?_toArray, List.getElem?_cons_zero, List.getElem?_cons_succ] at g0 g1 g2 g3 g4
      have lt1 := lt_of_block HU.out.box
      have lt2 := lt_of_block HU.out.at_.regs
      have m0 := (World.cell?_of_block (a := ⟨b', off' + k, none⟩) (HU.out.at_.below.block b' HB'.out)).trans HC'.out
      go_upto_region 11 with (go_at_call 9; refine (among_any _ _ _).mono ?_; rintro e w' ⟨rfl, rfl⟩)
      clear m0
      have d0 := cell_of_blk HU.out.at_.regs 0
      have d1 := cell_of_blk HU.out.at_.regs 1
      have d2 := cell_of_blk HU.out.at_.regs 2
      have d3 := cell_of_blk HU.out.at_.regs 3
      simp only [Rg.cs, List.getElem?_toArray, List.getElem?_cons_zero, List.getElem?_cons_succ] at d0 d1 d2 d3
      have e0 := cell_of_blk HU.out.at_.res 0
      have e1 := cell_of_blk HU.out.at_.res 1
      have e2 := cell_of_blk HU.out.at_.res 2
      have e3 := cell_of_blk HU.out.at_.res 3
      simp only [zero4, List.getElem?_toArray, List.getElem?_cons_zero, List.getElem?_cons_succ] at e0 e1 e2 e3
      have f0 := frozen_of_blk HU.out.at_.res 0
      have f1 := frozen_of_blk HU.out.at_.res 1
      have f2 := frozen_of_blk HU.out.at_.res 2
      have f3 := frozen_of_blk HU.out.at_.res 3
      go_region
      go_wp2
      exact bodyPost_ret (v := .tuple #[.int .i64 (k), .agg #[.int .i64 x0, .int .i64 x1, .int .i64 x2, .int .i64 x3], .bool false]) (by simp [results, Try.results6, go_sem, e0, e1, e2, e3]) rfl ⟨rfl, HU.out.at_.fin _ _ _ _⟩
    · show Calls _ _ #[_, _, _, .agg #[.int .i64 x0, .int .i64 x1, .int .i64 x2, .int .i64 x3]] _ _
      go_enter Try.func6, Try.ntmps6
      go_upto_region 1 with fail
      refine wp_rename (fun W => NxAt w ⟨x0, x1, x2, x3⟩ W) HX.out ?_
      intro W hW
      have HW := hid hW
      clear hW HX
      have hq := HPS.out.keep (HW.out.below.block b HB.out)
      obtain ⟨p0, p1, p2, p3, p4⟩ := hq
      dsimp only at p0 p1 p2 p3 p4
      go_upto_region 3 with (first | (go_at_call 9; refine (among_any _ _ _).mono ?_; rintro e w' ⟨rfl, rfl⟩) | (go_at_call 10; refine (Local_any _ _).mono ?_; rintro e w' ⟨rfl, rfl⟩) | (go_at_call 11; refine (May_any ⟨21, ia, ib, ic, iN⟩ _).mono ?_; rintro e w1 ⟨rfl, hb1⟩; have HB1 := hid hb1; clear hb1))
      refine wp_rename (fun V => NxAt w ⟨x0, x1, x2, x3⟩ V) (HW.out.keep HB1.out) ?_
      intro V hV
      have HV := hid hV
      clear hV p0 p1 p2 p3 p4
      have hq := HPS.out.keep (HV.out.below.block b HB.out)
      obtain ⟨p0, p1, p2, p3, p4⟩ := hq
      dsimp only at p0 p1 p2 p3 p4
      go_upto_region 4 with fail
      refine wp_rename (fun U => NxMid w ⟨x0, x1, x2, x3⟩ ⟨21, ia, ib, ic, iN⟩ V.heap.size U) (HV.out.boxed _) ?_
      intro U hU
      have HU := hid hU
      clear hU p0 p1 p2 p3 p4
      have g0 := cell_of_blk HU.out.box 0
      have g1 := cell_of_blk HU.out.box 1
      have g2 := cell_of_blk HU.out.box 2
      have g3 := cell_of_blk HU.out.box 3
      have g4 := cell_of_blk HU.out.box 4
      simp only [Ins.cs, List.getElem?_toArray, List.getElem?_cons_zero, List.getElem?_cons_succ] at g0 g1 g2 g3 g4
      have lt1 := lt_of_block HU.out.box
      have lt2 := lt_of_block HU.out.at_.regs
      have m0 := (World.cell?_of_block (a := ⟨b', off' + k, none⟩) (HU.out.at_.below.block b' HB'.out)).trans HC'.out
      go_upto_region 11 with (go_at_call 9; refine (among_any _ _ _).mono ?_; rintro e w' ⟨rfl, rfl⟩)
      clear m0
      have d0 := cell_of_blk HU.out.at_.regs 0
      have d1 := cell_of_blk HU.out.at_.regs 1
      have d2 := cell_of_blk HU.out.at_.regs 2
      have d3 := cell_of_blk HU.out.at_.regs 3
      simp only [Rg.cs, List.getElem?_toArray, List.getElem?_cons_zero, List.getElem?_cons_succ] at d0 d1 d2 d3
      have e0 := cell_of_blk HU.out.at_.res 0
      have e1 := cell_of_blk HU.out.at_.res 1
      have e2 := cell_of_blk HU.out.at_.res 2
      have e3 := cell_of_blk HU.out.at_.res 3
      simp only [zero4, List.getElem?_toArray, List.getElem?_cons_zero, List.getElem?_cons_succ] at e0 e1 e2 e3
      have f0 := frozen_of_blk HU.out.at_.res 0
      have f1 := frozen_of_blk HU.out.at_.res 1
      have f2 := frozen_of_blk HU.out.at_.res 2
      have f3 := frozen_of_blk HU.out.at_.res 3
      go_region
      go_wp2
      exact bodyPost_ret (v := .tuple #[.int .i64 (k), .agg #[.int .i64 x0, .int .i64 x1, .int .i64 x2, .int .i64 x3], .bool false]) (by simp [results, Try.results6, go_sem, e0, e1, e2, e3]) rfl ⟨rfl, HU.out.at_.fin _ _ _ _⟩
    · show Calls _ _ #[_, _, _, .agg #[.int .i64 x0, .int .i64 x1, .int .i64 x2, .int .i64 x3]] _ _
      go_enter Try.func6, Try.ntmps6
      go_upto_region 1 with fail
      refine wp_rename (fun W => NxAt w ⟨x0, x1, x2, x3⟩ W) HX.out ?_
      intro W hW
      have HW := hid hW
      clear hW HX
      have hq := HPS.out.keep (HW.out.below.block b HB.out)
      obtain ⟨p0, p1, p2, p3, p4⟩ := hq
      dsimp only at p0 p1 p2 p3 p4
      go_upto_region 3 with (first | (go_at_call 9; refine (among_any _ _ _).mono ?_; rintro e w' ⟨rfl, rfl⟩) | (go_at_call 10; refine (Local_any _ _).mono ?_; rintro e w' ⟨rfl, rfl⟩) | (go_at_call 11; refine (May_any ⟨22, ia, ib, ic, iN⟩ _).mono ?_; rintro e w1 ⟨rfl, hb1⟩; have HB1 := hid hb1; clear hb1))
      refine wp_rename (fun V => NxAt w ⟨x0, x1, x2, x3⟩ V) (HW.out.keep HB1.out) ?_
      intro V hV
      have HV := hid hV
      clear hV p0 p1 p2 p3 p4
      have hq := HPS.out.keep (HV.out.below.block b HB.out)
      obtain ⟨p0, p1, p2, p3, p4⟩ := hq
      dsimp only at p0 p1 p2 p3 p4
      go_upto_region 4 with fail
      refine wp_rename (fun U => NxMid w ⟨x0, x1, x2, x3⟩ ⟨22, ia, ib, ic, iN⟩ V.heap.size U) (HV.out.boxed _) ?_
      intro U hU
      have HU := hid hU
      clear hU p0 p1 p2 p3 p4
      have g0 := cell_of_blk HU.out.box 0
      have g1 := cell_of_blk HU.out.box 1
      have g2 := cell_of_blk HU.out.box 2
      have g3 := cell_of_blk HU.out.box 3
      have g4 := cell_of_blk HU.out.box 4
      simp only [Ins.cs, List.getElem?_toArray, List.getElem?_cons_zero, List.getElem?_cons_succ] at g0 g1 g2 g3 g4
      have lt1 := lt_of_block HU.out.box
      have lt2 := lt_of_block HU.out.at_.regs
      have m0 := (World.cell?_of_block (a := ⟨b', off' + k, none⟩) (HU.out.at_.below.block b' HB'.out)).trans HC'.out
      go_upto_region 11 with (go_at_call 9; refine (among_any _ _ _).mono ?_; rintro e w' ⟨rfl, rfl⟩)
      clear m0
      have d0 := cell_of_blk HU.out.at_.regs 0
      have d1 := cell_of_blk HU.out.at_.regs 1
      have d2 := cell_of_blk HU.out.at_.regs 2
      have d3 := cell_of_blk HU.out.at_.regs 3
      simp only [Rg.cs, List.getElem?_toArray, List.getElem?_cons_zero, List.getElem?_cons_succ] at d0 d1 d2 d3
      have e0 := cell_of_blk HU.out.at_.res 0
      have e1 := cell_of_blk HU.out.at_.res 1
      have e2 := cell_of_blk HU.out.at_.res 2
      have e3 := cell_of_blk HU.out.at_.res 3
      simp only [zero4, List.getElem?_toArray, List.getElem?_cons_zero, List.getElem?_cons_succ] at e0 e1 e2 e3
      have f0 := frozen_of_blk HU.out.at_.res 0
      have f1 := frozen_of_blk HU.out.at_.res 1
      have f2 := frozen_of_blk HU.out.at_.res 2
      have f3 := frozen_of_blk HU.out.at_.res 3
      go_region
      go_wp2
      exact bodyPost_ret (v := .tuple #[.int .i64 (k), .agg #[.int .i64 x0, .int .i64 x1, .int .i64 x2, .int .i64 x3], .bool false]) (by simp [results, Try.results6, go_sem, e0, e1, e2, e3]) rfl ⟨rfl, HU.out.at_.fin _ _ _ _⟩

set_option maxRecDepth 100000 in
set_option maxHeartbeats 4000000 in
theorem Next_jump (a a' : Option Addr) (n c m c' k : Nat) (ps : List Ins) (ms : List Int) (i : Ins) (r : Rg) (w : World) (hr : InsRow w a n ps) (hn : n ≤ 100000) (hk : k < n) (hi : ps[k]? = some i) (hm : IntRow w a' m ms) (h1 : localB i.op = true) (h2 : mayB i = true) (ho : jumpB i.op = true) (hx : amongB (k : Int) m = true) (hy : amongB (ms.getD k 0) n = true) :
    Calls Try.prog 6 #[.slice a n c, .slice a' m c', .int .i64 (k : Int), r.v] w (NextRet (turnF i.op (r.get i.a) k (ms.getD k 0), r, true) w) := by
  have hlt := (amongB_iff.1 hx).2
  obtain ⟨b', off', rfl, hb', hc'⟩ := hm.at (by omega)
  have hc' := hc' k (by omega)
  have HB' := hid hb'
  obtain ⟨x, hxx⟩ : ∃ x, ms.getD k 0 = x := ⟨_, rfl⟩
  rw [hxx] at hy hc' ⊢
  have HC' := hid hc'
  clear hxx hb' hc' hm
  obtain ⟨y0, y1⟩ := amongB_iff.1 hy
  have HA := hid (fun h => if_regs h2 h)
  have HO := hid (show i.op = 18 ∨ i.op = 19 ∨ i.op = 21 ∨ i.op = 22 from of_decide_eq_true ho)
  have HK := hid (show (0 : Int) ≤ (k : Int) ∧ (k : Int) ≤ 100000 ∧ 0 ≤ x ∧ x ≤ 100000 by omega)
  have TA := hid (fun W => turn_any i k x r W HK.out.1 HK.out.2.1 HK.out.2.2.1 HK.out.2.2.2 HA.out HO.out)
  generalize hT : turnF i.op (r.get i.a) k x = T at TA ⊢
  clear hT HA HO HK y0 y1
  obtain ⟨b, off, rfl, hb, hps⟩ := hr.at (by omega)
  have HX := hid (NxAt.new w r)
  obtain ⟨x0, x1, x2, x3⟩ := r
  obtain ⟨op, ia, ib, ic, iN⟩ := i
  have hAt := hps k _ hi
  have HPS := hid hAt
  have HB := hid hb
  have hA := amongB_yes (n := (k : Int)) (m := (n : Int)) (by omega) (by omega)
  have i1 : (0 : Int) ≤ (k : Int) := by omega
  have i2 : (k : Int) < (n : Int) := by omega
  clear hps hAt hb hr
  dsimp only at h1 h2 ho TA
  have ho' := of_decide_eq_true ho
  clear ho
  rcases ho' with rfl | rfl | rfl | rfl
  · show Calls _ _ #[_, _, _, .agg #[.int .i64 x0, .int .i64 x1, .int .i64 x2, .int .i64 x3]] _ _
    go_enter Try.func6, Try.ntmps6
    go_upto_region 1 with fail
    refine wp_rename (fun W => NxAt w ⟨x0, x1, x2, x3⟩ W) HX.out ?_
    intro W hW
    have HW := hid hW
    clear hW HX
    have hq := HPS.out.keep (HW.out.below.block b HB.out)
    obtain ⟨p0, p1, p2, p3, p4⟩ := hq
    dsimp only at p0 p1 p2 p3 p4
    go_upto_region 3 with (first | (go_at_call 9; refine (among_any _ _ _).mono ?_; rintro e w' ⟨rfl, rfl⟩) | (go_at_call 10; refine (Local_any _ _).mono ?_; rintro e w' ⟨rfl, rfl⟩) | (go_at_call 11; refine (May_any ⟨18, ia, ib, ic, iN⟩ _).mono ?_; rintro e w1 ⟨rfl, hb1⟩; have HB1 := hid hb1; clear hb1))
    refine wp_rename (fun V => NxAt w ⟨x0, x1, x2, x3⟩ V) (HW.out.keep HB1.out) ?_
    intro V hV
    have HV := hid hV
    clear hV p0 p1 p2 p3 p4
    have hq := HPS.out.keep (HV.out.below.block b HB.out)
    obtain ⟨p0, p1, p2, p3, p4⟩ := hq
    dsimp only at p0 p1 p2 p3 p4
    go_upto_region 4 with fail
    refine wp_rename (fun U => NxMid w ⟨x0, x1, x2, x3⟩ ⟨18, ia, ib, ic, iN⟩ V.heap.size U) (HV.out.boxed _) ?_
    intro U hU
    have HU := hid hU
    clear hU p0 p1 p2 p3 p4
    have g0 := cell_of_blk HU.out.box 0
    have g1 := cell_of_blk HU.out.box 1
    have g2 := cell_of_blk HU.out.box 2
    have g3 := cell_of_blk HU.out.box 3
    have g4 := cell_of_blk HU.out.box 4
    simp only [Ins.cs, List.getElem?_toArray, List.getElem?_cons_zero, List.getElem?_cons_succ] at g0 g1 g2 g3 g4
    have lt1 := lt_of_block HU.out.box
    have lt2 := lt_of_block HU.out.at_.regs
    have m0 := (World.cell?_of_block (a := ⟨b', off' + k, none⟩) (HU.out.at_.below.block b' HB'.out)).trans HC'.out
    have m1 : b' < U.heap.size := Nat.lt_of_lt_of_le HB'.out HU.out.at_.below.size
    go_upto_region 12 with (go_at_call 9; refine (among_any _ _ _).mono ?_; rintro e w' ⟨rfl, rfl⟩)
    have d0 := cell_of_blk HU.out.at_.regs 0
    have d1 := cell_of_blk HU.out.at_.regs 1
    have d2 := cell_of_blk HU.out.at_.regs 2
    have d3 := cell_of_blk HU.out.at_.regs 3
    simp only [Rg.cs, List.getElem?_toArray, List.getElem?_cons_zero, List.getElem?_cons_succ] at d0 d1 d2 d3
    refine wp_region_later (by kernel_rfl) (by kernel_rfl) ?_
    repeat (go_big_quiet_step ((go_at_call 12; with_reducible exact later_call (TA.out _))))
    refine wpQuiet_nil ?_
    rintro _ ⟨x, rfl⟩
    have HZ := hid (HU.out.at_.keep x.below)
    clear d0 d1 d2 d3 m0 m1 g0 g1 g2 g3 g4
    go_upto_region 14 with fail
    have d0 := cell_of_blk HZ.out.regs 0
    have d1 := cell_of_blk HZ.out.regs 1
    have d2 := cell_of_blk HZ.out.regs 2
    have d3 := cell_of_blk HZ.out.regs 3
    simp only [Rg.cs, List.getElem?_toArray, List.getElem?_cons_zero, List.getElem?_cons_succ] at d0 d1 d2 d3
    have e0 := cell_of_blk HZ.out.res 0
    have e1 := cell_of_blk HZ.out.res 1
    have e2 := cell_of_blk HZ.out.res 2
    have e3 := cell_of_blk HZ.out.res 3
    simp only [zero4, List.getElem?_toArray, List.getElem?_cons_zero, List.getElem?_cons_succ] at e0 e1 e2 e3
    have f0 := frozen_of_blk HZ.out.res 0
    have f1 := frozen_of_blk HZ.out.res 1
    have f2 := frozen_of_blk HZ.out.res 2
    have f3 := frozen_of_blk HZ.out.res 3
    go_region
    go_wp2
    exact bodyPost_ret (v := .tuple #[.int .i64 (T), .agg #[.int .i64 x0, .int .i64 x1, .int .i64 x2, .int .i64 x3], .bool true]) (by simp [results, Try.results6, go_sem, e0, e1, e2, e3]) rfl ⟨rfl, HZ.out.fin _ _ _ _⟩
  · show Calls _ _ #[_, _, _, .agg #[.int .i64 x0, .int .i64 x1, .int .i64 x2, .int .i64 x3]] _ _
    go_enter Try.func6, Try.ntmps6
    go_upto_region 1 with fail
    refine wp_rename (fun W => NxAt w ⟨x0, x1, x2, x3⟩ W) HX.out ?_
    intro W hW
    have HW := hid hW
    clear hW HX
    have hq := HPS.out.keep (HW.out.below.block b HB.out)
    obtain ⟨p0, p1, p2, p3, p4⟩ := hq
    dsimp only at p0 p1 p2 p3 p4
    go_upto_region 3 with (first | (go_at_call 9; refine (among_any _ _ _).mono ?_; rintro e w' ⟨rfl, rfl⟩) | (go_at_call 10; refine (Local_any _ _).mono ?_; rintro e w' ⟨rfl, rfl⟩) | (go_at_call 11; refine (May_any ⟨19, ia, ib, ic, iN⟩ _).mono ?_; rintro e w1 ⟨rfl, hb1⟩; have HB1 := hid hb1; clear hb1))
    refine wp_rename (fun V => NxAt w ⟨x0, x1, x2, x3⟩ V) (HW.out.keep HB1.out) ?_
    intro V hV
    have HV := hid hV
    clear hV p0 p1 p2 p3 p4
    have hq := HPS.out.keep (HV.out.below.block b HB.out)
    obtain ⟨p0, p1, p2, p3, p4⟩ := hq
    dsimp only at p0 p1 p2 p3 p4
    go_upto_region 4 with fail
    refine wp_rename (fun U => NxMid w ⟨x0, x1, x2, x3⟩ ⟨19, ia, ib, ic, iN⟩ V.heap.size U) (HV.out.boxed _) ?_
    intro U hU
    have HU := hid hU
    clear hU p0 p1 p2 p3 p4
    have g0 := cell_of_blk HU.out.box 0
    have g1 := cell_of_blk HU.out.box 1
    have g2 := cell_of_blk HU.out.box 2
    have g3 := cell_of_blk HU.out.box 3
    have g4 := cell_of_blk HU.out.box 4
    simp only [Ins.cs, List.getElem?_toArray, List.getElem?_cons_zero, List.getElem?_cons_succ] at g0 g1 g2 g3 g4
    have lt1 := lt_of_block HU.out.box
    have lt2 := lt_of_block HU.out.at_.regs
    have m0 := (World.cell?_of_block (a := ⟨b', off' + k, none⟩) (HU.out.at_.below.block b' HB'.out)).trans HC'.out
    have m1 : b' < U.heap.size := Nat.lt_of_lt_of_le HB'.out HU.out.at_.below.size
    go_upto_region 12 with (go_at_call 9; refine (among_any _ _ _).mono ?_; rintro e w' ⟨rfl, rfl⟩)
    have d0 := cell_of_blk HU.out.at_.regs 0
    have d1 := cell_of_blk HU.out.at_.regs 1
    have d2 := cell_of_blk HU.out.at_.regs 2
    have d3 := cell_of_blk HU.out.at_.regs 3
    simp only [Rg.cs, List.getElem?_toArray, List.getElem?_cons_zero, List.getElem?_cons_succ] at d0 d1 d2 d3
    refine wp_region_later (by kernel_rfl) (by kernel_rfl) ?_
    repeat (go_big_quiet_step ((go_at_call 12; with_reducible exact later_call (TA.out _))))
    refine wpQuiet_nil ?_
    rintro _ ⟨x, rfl⟩
    have HZ := hid (HU.out.at_.keep x.below)
    clear d0 d1 d2 d3 m0 m1 g0 g1 g2 g3 g4
    go_upto_region 14 with fail
    have d0 := cell_of_blk HZ.out.regs 0
    have d1 := cell_of_blk HZ.out.regs 1
    have d2 := cell_of_blk HZ.out.regs 2
    have d3 := cell_of_blk HZ.out.regs 3
    simp only [Rg.cs, List.getElem?_toArray, List.getElem?_cons_zero, List.getElem?_cons_succ] at d0 d1 d2 d3
    have e0 := cell_of_blk HZ.out.res 0
    have e1 := cell_of_blk HZ.out.res 1
    have e2 := cell_of_blk HZ.out.res 2
    have e3 := cell_of_blk HZ.out.res 3
    simp only [zero4, List.getElem?_toArray, List.getElem?_cons_zero, List.getElem?_cons_succ] at e0 e1 e2 e3
    have f0 := frozen_of_blk HZ.out.res 0
    have f1 := frozen_of_blk HZ.out.res 1
    have f2 := frozen_of_blk HZ.out.res 2
    have f3 := frozen_of_blk HZ.out.res 3
    go_region
    go_wp2
    exact bodyPost_ret (v := .tuple #[.int .i64 (T), .agg #[.int .i64 x0, .int .i64 x1, .int .i64 x2, .int .i64 x3], .bool true]) (by simp [results, Try.results6, go_sem, e0, e1, e2, e3]) rfl ⟨rfl, HZ.out.fin _ _ _ _⟩
  · show Calls _ _ #[_, _, _, .agg #[.int .i64 x0, .int .i64 x1, .int .i64 x2, .int .i64 x3]] _ _
    go_enter Try.func6, Try.ntmps6
    go_upto_region 1 with fail
    refine wp_rename (fun W => NxAt w ⟨x0, x1, x2, x3⟩ W) HX.out ?_
    intro W hW
    have HW := hid hW
    clear hW HX
    have hq := HPS.out.keep (HW.out.below.block b HB.out)
    obtain ⟨p0, p1, p2, p3, p4⟩ := hq
    dsimp only at p0 p1 p2 p3 p4
    go_upto_region 3 with (first | (go_at_call 9; refine (among_any _ _ _).mono ?_; rintro e w' ⟨rfl, rfl⟩) | (go_at_call 10; refine (Local_any _ _).mono ?_; rintro e w' ⟨rfl, rfl⟩) | (go_at_call 11; refine (May_any ⟨21, ia, ib, ic, iN⟩ _).mono ?_; rintro e w1 ⟨rfl, hb1⟩; have HB1 := hid hb1; clear hb1))
    refine wp_rename (fun V => NxAt w ⟨x0, x1, x2, x3⟩ V) (HW.out.keep HB1.out) ?_
    intro V hV
    have HV := hid hV
    clear hV p0 p1 p2 p3 p4
    have hq := HPS.out.keep (HV.out.below.block b HB.out)
    obtain ⟨p0, p1, p2, p3, p4⟩ := hq
    dsimp only at p0 p1 p2 p3 p4
    go_upto_region 4 with fail
    refine wp_rename (fun U => NxMid w ⟨x0, x1, x2, x3⟩ ⟨21, ia, ib, ic, iN⟩ V.heap.size U) (HV.out.boxed _) ?_
    intro U hU
    have HU := hid hU
    clear hU p0 p1 p2 p3 p4
    have g0 := cell_of_blk HU.out.box 0
    have g1 := cell_of_blk HU.out.box 1
    have g2 := cell_of_blk HU.out.box 2
    have g3 := cell_of_blk HU.out.box 3
    have g4 := cell_of_blk HU.out.box 4
    simp only [Ins.cs, List.getElem?_toArray, List.getElem?_cons_zero, List.getElem?_cons_succ] at g0 g1 g2 g3 g4
    have lt1 := lt_of_block HU.out.box
    have lt2 := lt_of_block HU.out.at_.regs
    have m0 := (World.cell?_of_block (a := ⟨b', off' + k, none⟩) (HU.out.at_.below.block b' HB'.out)).trans HC'.out
    have m1 : b' < U.heap.size := Nat.lt_of_lt_of_le HB'.out HU.out.at_.below.size
    go_upto_region 12 with (go_at_call 9; refine (among_any _ _ _).mono ?_; rintro e w' ⟨rfl, rfl⟩)
    have d0 := cell_of_blk HU.out.at_.regs 0
    have d1 := cell_of_blk HU.out.at_.regs 1
    have d2 := cell_of_blk HU.out.at_.regs 2
    have d3 := cell_of_blk HU.out.at_.regs 3
    simp only [Rg.cs, List.getElem?_toArray, List.getElem?_cons_zero, List.getElem?_cons_succ] at d0 d1 d2 d3
    refine wp_region_later (by kernel_rfl) (by kernel_rfl) ?_
    repeat (go_big_quiet_step ((go_at_call 12; with_reducible exact later_call (TA.out _))))
    refine wpQuiet_nil ?_
    rintro _ ⟨x, rfl⟩
    have HZ := hid (HU.out.at_.keep x.below)
    clear d0 d1 d2 d3 m0 m1 g0 g1 g2 g3 g4
    go_upto_region 14 with fail
    have d0 := cell_of_blk HZ.out.regs 0
    have d1 := cell_of_blk HZ.out.regs 1
    have d2 := cell_of_blk HZ.out.regs 2
    have d3 := cell_of_blk HZ.out.regs 3
    simp only [Rg.cs, List.getElem?_toArray, List.getElem?_cons_zero, List.getElem?_cons_succ] at d0 d1 d2 d3
    have e0 := cell_of_blk HZ.out.res 0
    have e1 := cell_of_blk HZ.out.res 1
    have e2 := cell_of_blk HZ.out.res 2
    have e3 := cell_of_blk HZ.out.res 3
    simp only [zero4, List.getElem?_toArray, List.getElem?_cons_zero, List.getElem?_cons_succ] at e0 e1 e2 e3
    have f0 := frozen_of_blk HZ.out.res 0
    have f1 := frozen_of_blk HZ.out.res 1
    have f2 := frozen_of_blk HZ.out.res 2
    have f3 := frozen_of_blk HZ.out.res 3
    go_region
    go_wp2
    exact bodyPost_ret (v := .tuple #[.int .i64 (T), .agg #[.int .i64 x0, .int .i64 x1, .int .i64 x2, .int .i64 x3], .bool true]) (by simp [results, Try.results6, go_sem, e0, e1, e2, e3]) rfl ⟨rfl, HZ.out.fin _ _ _ _⟩
  · show Calls _ _ #[_, _, _, .agg #[.int .i64 x0, .int .i64 x1, .int .i64 x2, .int .i64 x3]] _ _
    go_enter Try.func6, Try.ntmps6
    go_upto_region 1 with fail
    refine wp_rename (fun W => NxAt w ⟨x0, x1, x2, x3⟩ W) HX.out ?_
    intro W hW
    have HW := hid hW
    clear hW HX
    have hq := HPS.out.keep (HW.out.below.block b HB.out)
    obtain ⟨p0, p1, p2, p3, p4⟩ := hq
    dsimp only at p0 p1 p2 p3 p4
    go_upto_region 3 with (first | (go_at_call 9; refine (among_any _ _ _).mono ?_; rintro e w' ⟨rfl, rfl⟩) | (go_at_call 10; refine (Local_any _ _).mono ?_; rintro e w' ⟨rfl, rfl⟩) | (go_at_call 11; refine (May_any ⟨22, ia, ib, ic, iN⟩ _).mono ?_; rintro e w1 ⟨rfl, hb1⟩; have HB1 := hid hb1; clear hb1))
    refine wp_rename (fun V => NxAt w ⟨x0, x1, x2, x3⟩ V) (HW.out.keep HB1.out) ?_
    intro V hV
    have HV := hid hV
    clear hV p0 p1 p2 p3 p4
    have hq := HPS.out.keep (HV.out.below.block b HB.out)
    obtain ⟨p0, p1, p2, p3, p4⟩ := hq
    dsimp only at p0 p1 p2 p3 p4
    go_upto_region 4 with fail
    refine wp_rename (fun U => NxMid w ⟨x0, x1, x2, x3⟩ ⟨22, ia, ib, ic, iN⟩ V.heap.size U) (HV.out.boxed _) ?_
    intro U hU
    have HU := hid hU
    clear hU p0 p1 p2 p3 p4
    have g0 := cell_of_blk HU.out.box 0
    have g1 := cell_of_blk HU.out.box 1
    have g2 := cell_of_blk HU.out.box 2
    have g3 := cell_of_blk HU.out.box 3
    have g4 := cell_of_blk HU.out.box 4
    simp only [Ins.cs, List.getElem?_toArray, List.getElem?_cons_zero, List.getElem?_cons_succ] at g0 g1 g2 g3 g4
    have lt1 := lt_of_block HU.out.box
    have lt2 := lt_of_block HU.out.at_.regs
    have m0 := (World.cell?_of_block (a := ⟨b', off' + k, none⟩) (HU.out.at_.below.block b' HB'.out)).trans HC'.out
    have m1 : b' < U.heap.size := Nat.lt_of_lt_of_le HB'.out HU.out.at_.below.size
    go_upto_region 12 with (go_at_call 9; refine (among_any _ _ _).mono ?_; rintro e w' ⟨rfl, rfl⟩)
    have d0 := cell_of_blk HU.out.at_.regs 0
    have d1 := cell_of_blk HU.out.at_.regs 1
    have d2 := cell_of_blk HU.out.at_.regs 2
    have d3 := cell_of_blk HU.out.at_.regs 3
    simp only [Rg.cs, List.getElem?_toArray, List.getElem?_cons_zero, List.getElem?_cons_succ] at d0 d1 d2 d3
    refine wp_region_later (by kernel_rfl) (by kernel_rfl) ?_
    repeat (go_big_quiet_step ((go_at_call 12; with_reducible exact later_call (TA.out _))))
    refine wpQuiet_nil ?_
    rintro _ ⟨x, rfl⟩
    have HZ := hid (HU.out.at_.keep x.below)
    clear d0 d1 d2 d3 m0 m1 g0 g1 g2 g3 g4
    go_upto_region 14 with fail
    have d0 := cell_of_blk HZ.out.regs 0
    have d1 := cell_of_blk HZ.out.regs 1
    have d2 := cell_of_blk HZ.out.regs 2
    have d3 := cell_of_blk HZ.out.regs 3
    simp only [Rg.cs, List.getElem?_toArray, List.getElem?_cons_zero, List.getElem?_cons_succ] at d0 d1 d2 d3
    have e0 := cell_of_blk HZ.out.res 0
    have e1 := cell_of_blk HZ.out.res 1
    have e2 := cell_of_blk HZ.out.res 2
    have e3 := cell_of_blk HZ.out.res 3
    simp only [zero4, List.getElem?_toArray, List.getElem?_cons_zero, List.getElem?_cons_succ] at e0 e1 e2 e3
    have f0 := frozen_of_blk HZ.out.res 0
    have f1 := frozen_of_blk HZ.out.res 1
    have f2 := frozen_of_blk HZ.out.res 2
    have f3 := frozen_of_blk HZ.out.res 3
    go_region
    go_wp2
    exact bodyPost_ret (v := .tuple #[.int .i64 (T), .agg #[.int .i64 x0, .int .i64 x1, .int .i64 x2, .int .i64 x3], .bool true]) (by simp [results, Try.results6, go_sem, e0, e1, e2, e3]) rfl ⟨rfl, HZ.out.fin _ _ _ _⟩

end Go.Proofs.Ythhgeanmlpmokaa
