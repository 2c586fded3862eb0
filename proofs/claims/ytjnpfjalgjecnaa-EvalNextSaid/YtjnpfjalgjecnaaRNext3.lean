/-
  The document's own Next: a sum; whole.
-/
import Derived.Test.YtjnpfjalgjecnaaRNext2
namespace Go.Proofs.Ytjnpfjalgjecnaa
open Go.RowKit
set_option linter.unusedVariables false
attribute [local go_sem] Later.cell Later.frozen

set_option maxRecDepth 100000 in
set_option maxHeartbeats 4000000 in
theorem refNext_sum (a a' : Option Addr) (n c m c' k : Nat) (ps : List Ins) (ms : List Int) (i : Ins) (r : Rg) (w : World) (hr : InsRow w a n ps) (hn : n ≤ 100000) (hk : k < n) (hi : ps[k]? = some i) (h1 : localB i.op = true) (h2 : mayB i = true) (ho : 1 ≤ i.op ∧ i.op ≤ 7) :
    Calls Try.prog 19 #[.slice a n c, .slice a' m c', .int .i64 (k : Int), r.v] w (NextRet ((k : Int) + 1, r.put i.a (valueF i r), true) w) := by
  obtain ⟨⟨a0, a1⟩, ⟨b0, b1⟩, c0, c1⟩ := sum_regs h2 ho
  obtain ⟨v, hv⟩ : ∃ v, valueF i r = v := ⟨_, rfl⟩
  obtain ⟨q, hq⟩ : ∃ q, r.put i.a v = q := ⟨_, rfl⟩
  have HQ := hid hq
  rw [hv, hq]
  clear hq
  unfold valueF at hv
  obtain ⟨y, hy⟩ : ∃ y, r.get i.b = y := ⟨_, rfl⟩
  obtain ⟨z, hz⟩ : ∃ z, r.get i.c = z := ⟨_, rfl⟩
  rw [hy, hz] at hv
  have HY := hid hy
  have HZ := hid hz
  have HVAL := hid hv
  clear hy hz hv
  obtain ⟨q0, q1, q2, q3⟩ := q
  obtain ⟨b, off, rfl, hb, hps⟩ := hr.at (by omega)
  have HX := hid (NxAt.new w r)
  obtain ⟨x0, x1, x2, x3⟩ := r
  obtain ⟨op, ia, ib, ic, iN⟩ := i
  have hAt := hps k _ hi
  have HPS := hid hAt
  have HB := hid hb
  have i1 : (0 : Int) ≤ (k : Int) := by omega
  have i2 : (k : Int) < (n : Int) := by omega
  clear hps hAt hb hr
  dsimp only at h1 h2 ho a0 a1 b0 b1 c0 c1 HVAL HY HZ HQ
  have AH := hid (And.intro a0 a1)
  have BH := hid (And.intro b0 b1)
  have CH := hid (And.intro c0 c1)
  have h7 : op = 1 ∨ op = 2 ∨ op = 3 ∨ op = 4 ∨ op = 5 ∨ op = 6 ∨ op = 7 := by omega
  clear ho
  rcases h7 with rfl | rfl | rfl | rfl | rfl | rfl | rfl
  · show Calls _ _ #[_, _, _, .agg #[.int .i64 x0, .int .i64 x1, .int .i64 x2, .int .i64 x3]] _ _
    go_enter Try.func19, Try.ntmps19
    go_upto_region 1 with fail
    refine wp_rename (fun W => NxAt w ⟨x0, x1, x2, x3⟩ W) HX.out ?_
    intro W hW
    have HW := hid hW
    clear hW HX
    have hq := HPS.out.keep (HW.out.below.block b HB.out)
    obtain ⟨p0, p1, p2, p3, p4⟩ := hq
    dsimp only at p0 p1 p2 p3 p4
    go_upto_region 3 with (first | (go_at_call 12; refine (MayInstr_any ⟨1, ia, ib, ic, iN⟩ _).mono ?_; rintro e w1 ⟨rfl, hb1⟩; have HB1 := hid hb1; have hq1 := HPS.out.keep ((bthen HW.out.below hb1).block b HB.out); obtain ⟨r0, _, _, _, _⟩ := hq1; dsimp only at r0; clear hb1) | (go_at_call 14; refine (refLocal_any _ _).mono ?_; rintro e w' ⟨rfl, rfl⟩))
    refine wp_rename (fun V => NxAt w ⟨x0, x1, x2, x3⟩ V) (HW.out.keep HB1.out) ?_
    intro V hV
    have HV := hid hV
    clear hV p0 p1 p2 p3 p4 r0
    have hq := HPS.out.keep (HV.out.below.block b HB.out)
    obtain ⟨p0, p1, p2, p3, p4⟩ := hq
    dsimp only at p0 p1 p2 p3 p4
    go_upto_region 4 with fail
    refine wp_rename (fun U => NxMid w ⟨x0, x1, x2, x3⟩ ⟨1, ia, ib, ic, iN⟩ V.heap.size U) (HV.out.boxed _) ?_
    intro U hU
    have HU := hid hU
    clear hU p0 p1 p2 p3 p4
    have g0 := cell_of_blk HU.out.box 0
    have g1 := cell_of_blk HU.out.box 1
    have g2 := cell_of_blk HU.out.box 2
    have g3 := cell_of_blk HU.out.box 3
    have g4 := cell_of_blk HU.out.box 4
    simp only [Ins.cs, List.getElem?_toArray, List.getElem?_cons_zero, List.getElem?_cons_succ] at g0 g1 g2 g3 g4
    have lt1 := lt_of_block HU.out.box
    have lt2 := lt_of_block HU.out.at_.regs
    have ca := Rg.cell HU.out.at_.regs AH.out.1 AH.out.2
    have fa := frozen_of_blk HU.out.at_.regs ia.toNat
    have cb := Rg.cell HU.out.at_.regs BH.out.1 BH.out.2
    have cc := Rg.cell HU.out.at_.regs CH.out.1 CH.out.2
    rw [HY.out] at cb
    rw [HZ.out] at cc
    go_upto_region 27 with fail
    refine wp_rename (fun Z => NxAt w ⟨q0, q1, q2, q3⟩ Z) (by
      have e : iN = v := (rfl).trans HVAL.out
      rw [← HQ.out, ← e]
      exact HU.out.at_.put AH.out.1 AH.out.2 _) ?_
    intro Z hZ
    have HZZ := hid hZ
    clear hZ g0 g1 g2 g3 g4 ca fa cb cc
    have d0 := cell_of_blk HZZ.out.regs 0
    have d1 := cell_of_blk HZZ.out.regs 1
    have d2 := cell_of_blk HZZ.out.regs 2
    have d3 := cell_of_blk HZZ.out.regs 3
    simp only [Rg.cs, List.getElem?_toArray, List.getElem?_cons_zero, List.getElem?_cons_succ] at d0 d1 d2 d3
    have e0 := cell_of_blk HZZ.out.res 0
    have e1 := cell_of_blk HZZ.out.res 1
    have e2 := cell_of_blk HZZ.out.res 2
    have e3 := cell_of_blk HZZ.out.res 3
    simp only [zero4, List.getElem?_toArray, List.getElem?_cons_zero, List.getElem?_cons_succ] at e0 e1 e2 e3
    have f0 := frozen_of_blk HZZ.out.res 0
    have f1 := frozen_of_blk HZZ.out.res 1
    have f2 := frozen_of_blk HZZ.out.res 2
    have f3 := frozen_of_blk HZZ.out.res 3
    go_region
    go_wp2
    exact bodyPost_ret (v := .tuple #[.int .i64 (k + 1), .agg #[.int .i64 q0, .int .i64 q1, .int .i64 q2, .int .i64 q3], .bool true]) (by simp [results, Try.results19, go_sem, e0, e1, e2, e3]) rfl ⟨rfl, HZZ.out.fin _ _ _ _⟩
  · show Calls _ _ #[_, _, _, .agg #[.int .i64 x0, .int .i64 x1, .int .i64 x2, .int .i64 x3]] _ _
    go_enter Try.func19, Try.ntmps19
    go_upto_region 1 with fail
    refine wp_rename (fun W => NxAt w ⟨x0, x1, x2, x3⟩ W) HX.out ?_
    intro W hW
    have HW := hid hW
    clear hW HX
    have hq := HPS.out.keep (HW.out.below.block b HB.out)
    obtain ⟨p0, p1, p2, p3, p4⟩ := hq
    dsimp only at p0 p1 p2 p3 p4
    go_upto_region 3 with (first | (go_at_call 12; refine (MayInstr_any ⟨2, ia, ib, ic, iN⟩ _).mono ?_; rintro e w1 ⟨rfl, hb1⟩; have HB1 := hid hb1; have hq1 := HPS.out.keep ((bthen HW.out.below hb1).block b HB.out); obtain ⟨r0, _, _, _, _⟩ := hq1; dsimp only at r0; clear hb1) | (go_at_call 14; refine (refLocal_any _ _).mono ?_; rintro e w' ⟨rfl, rfl⟩))
    refine wp_rename (fun V => NxAt w ⟨x0, x1, x2, x3⟩ V) (HW.out.keep HB1.out) ?_
    intro V hV
    have HV := hid hV
    clear hV p0 p1 p2 p3 p4 r0
    have hq := HPS.out.keep (HV.out.below.block b HB.out)
    obtain ⟨p0, p1, p2, p3, p4⟩ := hq
    dsimp only at p0 p1 p2 p3 p4
    go_upto_region 4 with fail
    refine wp_rename (fun U => NxMid w ⟨x0, x1, x2, x3⟩ ⟨2, ia, ib, ic, iN⟩ V.heap.size U) (HV.out.boxed _) ?_
    intro U hU
    have HU := hid hU
    clear hU p0 p1 p2 p3 p4
    have g0 := cell_of_blk HU.out.box 0
    have g1 := cell_of_blk HU.out.box 1
    have g2 := cell_of_blk HU.out.box 2
    have g3 := cell_of_blk HU.out.box 3
    have g4 := cell_of_blk HU.out.box 4
    simp only [Ins.cs, List.getElem?_toArray, List.getElem?_cons_zero, List.getElem?_cons_succ] at g0 g1 g2 g3 g4
    have lt1 := lt_of_block HU.out.box
    have lt2 := lt_of_block HU.out.at_.regs
    have ca := Rg.cell HU.out.at_.regs AH.out.1 AH.out.2
    have fa := frozen_of_blk HU.out.at_.regs ia.toNat
    have cb := Rg.cell HU.out.at_.regs BH.out.1 BH.out.2
    have cc := Rg.cell HU.out.at_.regs CH.out.1 CH.out.2
    rw [HY.out] at cb
    rw [HZ.out] at cc
    go_upto_region 16 with fail
    refine wp_region_later_tail 12 (by kernel_rfl) (by kernel_rfl) ?_
    simp only [List.take_succ_cons, List.take_zero, List.drop_succ_cons, List.drop_zero]
    repeat (go_big_quiet_step ((go_at_call 29; with_reducible exact later_same (refTruth_any _ _))))
    refine wpQuiet_nil ?_
    rintro _ ⟨x, rfl⟩
    go_upto_region 27 with fail
    refine wp_rename (fun Z => NxAt w ⟨q0, q1, q2, q3⟩ Z) (by
      have e : wrap64 (y + z) = v := (rfl).trans HVAL.out
      rw [← HQ.out, ← e]
      exact (HU.out.at_.keep x.below).put AH.out.1 AH.out.2 _) ?_
    intro Z hZ
    have HZZ := hid hZ
    clear hZ g0 g1 g2 g3 g4 ca fa cb cc
    have d0 := cell_of_blk HZZ.out.regs 0
    have d1 := cell_of_blk HZZ.out.regs 1
    have d2 := cell_of_blk HZZ.out.regs 2
    have d3 := cell_of_blk HZZ.out.regs 3
    simp only [Rg.cs, List.getElem?_toArray, List.getElem?_cons_zero, List.getElem?_cons_succ] at d0 d1 d2 d3
    have e0 := cell_of_blk HZZ.out.res 0
    have e1 := cell_of_blk HZZ.out.res 1
    have e2 := cell_of_blk HZZ.out.res 2
    have e3 := cell_of_blk HZZ.out.res 3
    simp only [zero4, List.getElem?_toArray, List.getElem?_cons_zero, List.getElem?_cons_succ] at e0 e1 e2 e3
    have f0 := frozen_of_blk HZZ.out.res 0
    have f1 := frozen_of_blk HZZ.out.res 1
    have f2 := frozen_of_blk HZZ.out.res 2
    have f3 := frozen_of_blk HZZ.out.res 3
    go_region
    go_wp2
    exact bodyPost_ret (v := .tuple #[.int .i64 (k + 1), .agg #[.int .i64 q0, .int .i64 q1, .int .i64 q2, .int .i64 q3], .bool true]) (by simp [results, Try.results19, go_sem, e0, e1, e2, e3]) rfl ⟨rfl, HZZ.out.fin _ _ _ _⟩
  · show Calls _ _ #[_, _, _, .agg #[.int .i64 x0, .int .i64 x1, .int .i64 x2, .int .i64 x3]] _ _
    go_enter Try.func19, Try.ntmps19
    go_upto_region 1 with fail
    refine wp_rename (fun W => NxAt w ⟨x0, x1, x2, x3⟩ W) HX.out ?_
    intro W hW
    have HW := hid hW
    clear hW HX
    have hq := HPS.out.keep (HW.out.below.block b HB.out)
    obtain ⟨p0, p1, p2, p3, p4⟩ := hq
    dsimp only at p0 p1 p2 p3 p4
    go_upto_region 3 with (first | (go_at_call 12; refine (MayInstr_any ⟨3, ia, ib, ic, iN⟩ _).mono ?_; rintro e w1 ⟨rfl, hb1⟩; have HB1 := hid hb1; have hq1 := HPS.out.keep ((bthen HW.out.below hb1).block b HB.out); obtain ⟨r0, _, _, _, _⟩ := hq1; dsimp only at r0; clear hb1) | (go_at_call 14; refine (refLocal_any _ _).mono ?_; rintro e w' ⟨rfl, rfl⟩))
    refine wp_rename (fun V => NxAt w ⟨x0, x1, x2, x3⟩ V) (HW.out.keep HB1.out) ?_
    intro V hV
    have HV := hid hV
    clear hV p0 p1 p2 p3 p4 r0
    have hq := HPS.out.keep (HV.out.below.block b HB.out)
    obtain ⟨p0, p1, p2, p3, p4⟩ := hq
    dsimp only at p0 p1 p2 p3 p4
    go_upto_region 4 with fail
    refine wp_rename (fun U => NxMid w ⟨x0, x1, x2, x3⟩ ⟨3, ia, ib, ic, iN⟩ V.heap.size U) (HV.out.boxed _) ?_
    intro U hU
    have HU := hid hU
    clear hU p0 p1 p2 p3 p4
    have g0 := cell_of_blk HU.out.box 0
    have g1 := cell_of_blk HU.out.box 1
    have g2 := cell_of_blk HU.out.box 2
    have g3 := cell_of_blk HU.out.box 3
    have g4 := cell_of_blk HU.out.box 4
    simp only [Ins.cs, List.getElem?_toArray, List.getElem?_cons_zero, List.getElem?_cons_succ] at g0 g1 g2 g3 g4
    have lt1 := lt_of_block HU.out.box
    have lt2 := lt_of_block HU.out.at_.regs
    have ca := Rg.cell HU.out.at_.regs AH.out.1 AH.out.2
    have fa := frozen_of_blk HU.out.at_.regs ia.toNat
    have cb := Rg.cell HU.out.at_.regs BH.out.1 BH.out.2
    have cc := Rg.cell HU.out.at_.regs CH.out.1 CH.out.2
    rw [HY.out] at cb
    rw [HZ.out] at cc
    go_upto_region 18 with fail
    refine wp_region_later_tail 12 (by kernel_rfl) (by kernel_rfl) ?_
    simp only [List.take_succ_cons, List.take_zero, List.drop_succ_cons, List.drop_zero]
    repeat (go_big_quiet_step ((go_at_call 29; with_reducible exact later_same (refTruth_any _ _))))
    refine wpQuiet_nil ?_
    rintro _ ⟨x, rfl⟩
    go_upto_region 27 with fail
    refine wp_rename (fun Z => NxAt w ⟨q0, q1, q2, q3⟩ Z) (by
      have e : wrap64 (y - z) = v := (rfl).trans HVAL.out
      rw [← HQ.out, ← e]
      exact (HU.out.at_.keep x.below).put AH.out.1 AH.out.2 _) ?_
    intro Z hZ
    have HZZ := hid hZ
    clear hZ g0 g1 g2 g3 g4 ca fa cb cc
    have d0 := cell_of_blk HZZ.out.regs 0
    have d1 := cell_of_blk HZZ.out.regs 1
    have d2 := cell_of_blk HZZ.out.regs 2
    have d3 := cell_of_blk HZZ.out.regs 3
    simp only [Rg.cs, List.getElem?_toArray, List.getElem?_cons_zero, List.getElem?_cons_succ] at d0 d1 d2 d3
    have e0 := cell_of_blk HZZ.out.res 0
    have e1 := cell_of_blk HZZ.out.res 1
    have e2 := cell_of_blk HZZ.out.res 2
    have e3 := cell_of_blk HZZ.out.res 3
    simp only [zero4, List.getElem?_toArray, List.getElem?_cons_zero, List.getElem?_cons_succ] at e0 e1 e2 e3
    have f0 := frozen_of_blk HZZ.out.res 0
    have f1 := frozen_of_blk HZZ.out.res 1
    have f2 := frozen_of_blk HZZ.out.res 2
    have f3 := frozen_of_blk HZZ.out.res 3
    go_region
    go_wp2
    exact bodyPost_ret (v := .tuple #[.int .i64 (k + 1), .agg #[.int .i64 q0, .int .i64 q1, .int .i64 q2, .int .i64 q3], .bool true]) (by simp [results, Try.results19, go_sem, e0, e1, e2, e3]) rfl ⟨rfl, HZZ.out.fin _ _ _ _⟩
  · show Calls _ _ #[_, _, _, .agg #[.int .i64 x0, .int .i64 x1, .int .i64 x2, .int .i64 x3]] _ _
    go_enter Try.func19, Try.ntmps19
    go_upto_region 1 with fail
    refine wp_rename (fun W => NxAt w ⟨x0, x1, x2, x3⟩ W) HX.out ?_
    intro W hW
    have HW := hid hW
    clear hW HX
    have hq := HPS.out.keep (HW.out.below.block b HB.out)
    obtain ⟨p0, p1, p2, p3, p4⟩ := hq
    dsimp only at p0 p1 p2 p3 p4
    go_upto_region 3 with (first | (go_at_call 12; refine (MayInstr_any ⟨4, ia, ib, ic, iN⟩ _).mono ?_; rintro e w1 ⟨rfl, hb1⟩; have HB1 := hid hb1; have hq1 := HPS.out.keep ((bthen HW.out.below hb1).block b HB.out); obtain ⟨r0, _, _, _, _⟩ := hq1; dsimp only at r0; clear hb1) | (go_at_call 14; refine (refLocal_any _ _).mono ?_; rintro e w' ⟨rfl, rfl⟩))
    refine wp_rename (fun V => NxAt w ⟨x0, x1, x2, x3⟩ V) (HW.out.keep HB1.out) ?_
    intro V hV
    have HV := hid hV
    clear hV p0 p1 p2 p3 p4 r0
    have hq := HPS.out.keep (HV.out.below.block b HB.out)
    obtain ⟨p0, p1, p2, p3, p4⟩ := hq
    dsimp only at p0 p1 p2 p3 p4
    go_upto_region 4 with fail
    refine wp_rename (fun U => NxMid w ⟨x0, x1, x2, x3⟩ ⟨4, ia, ib, ic, iN⟩ V.heap.size U) (HV.out.boxed _) ?_
    intro U hU
    have HU := hid hU
    clear hU p0 p1 p2 p3 p4
    have g0 := cell_of_blk HU.out.box 0
    have g1 := cell_of_blk HU.out.box 1
    have g2 := cell_of_blk HU.out.box 2
    have g3 := cell_of_blk HU.out.box 3
    have g4 := cell_of_blk HU.out.box 4
    simp only [Ins.cs, List.getElem?_toArray, List.getElem?_cons_zero, List.getElem?_cons_succ] at g0 g1 g2 g3 g4
    have lt1 := lt_of_block HU.out.box
    have lt2 := lt_of_block HU.out.at_.regs
    have ca := Rg.cell HU.out.at_.regs AH.out.1 AH.out.2
    have fa := frozen_of_blk HU.out.at_.regs ia.toNat
    have cb := Rg.cell HU.out.at_.regs BH.out.1 BH.out.2
    have cc := Rg.cell HU.out.at_.regs CH.out.1 CH.out.2
    rw [HY.out] at cb
    rw [HZ.out] at cc
    go_upto_region 20 with fail
    refine wp_region_later_tail 12 (by kernel_rfl) (by kernel_rfl) ?_
    simp only [List.take_succ_cons, List.take_zero, List.drop_succ_cons, List.drop_zero]
    repeat (go_big_quiet_step ((go_at_call 29; with_reducible exact later_same (refTruth_any _ _))))
    refine wpQuiet_nil ?_
    rintro _ ⟨x, rfl⟩
    go_upto_region 27 with fail
    refine wp_rename (fun Z => NxAt w ⟨q0, q1, q2, q3⟩ Z) (by
      have e : wrap64 (y * z) = v := (rfl).trans HVAL.out
      rw [← HQ.out, ← e]
      exact (HU.out.at_.keep x.below).put AH.out.1 AH.out.2 _) ?_
    intro Z hZ
    have HZZ := hid hZ
    clear hZ g0 g1 g2 g3 g4 ca fa cb cc
    have d0 := cell_of_blk HZZ.out.regs 0
    have d1 := cell_of_blk HZZ.out.regs 1
    have d2 := cell_of_blk HZZ.out.regs 2
    have d3 := cell_of_blk HZZ.out.regs 3
    simp only [Rg.cs, List.getElem?_toArray, List.getElem?_cons_zero, List.getElem?_cons_succ] at d0 d1 d2 d3
    have e0 := cell_of_blk HZZ.out.res 0
    have e1 := cell_of_blk HZZ.out.res 1
    have e2 := cell_of_blk HZZ.out.res 2
    have e3 := cell_of_blk HZZ.out.res 3
    simp only [zero4, List.getElem?_toArray, List.getElem?_cons_zero, List.getElem?_cons_succ] at e0 e1 e2 e3
    have f0 := frozen_of_blk HZZ.out.res 0
    have f1 := frozen_of_blk HZZ.out.res 1
    have f2 := frozen_of_blk HZZ.out.res 2
    have f3 := frozen_of_blk HZZ.out.res 3
    go_region
    go_wp2
    exact bodyPost_ret (v := .tuple #[.int .i64 (k + 1), .agg #[.int .i64 q0, .int .i64 q1, .int .i64 q2, .int .i64 q3], .bool true]) (by simp [results, Try.results19, go_sem, e0, e1, e2, e3]) rfl ⟨rfl, HZZ.out.fin _ _ _ _⟩
  · show Calls _ _ #[_, _, _, .agg #[.int .i64 x0, .int .i64 x1, .int .i64 x2, .int .i64 x3]] _ _
    go_enter Try.func19, Try.ntmps19
    go_upto_region 1 with fail
    refine wp_rename (fun W => NxAt w ⟨x0, x1, x2, x3⟩ W) HX.out ?_
    intro W hW
    have HW := hid hW
    clear hW HX
    have hq := HPS.out.keep (HW.out.below.block b HB.out)
    obtain ⟨p0, p1, p2, p3, p4⟩ := hq
    dsimp only at p0 p1 p2 p3 p4
    go_upto_region 3 with (first | (go_at_call 12; refine (MayInstr_any ⟨5, ia, ib, ic, iN⟩ _).mono ?_; rintro e w1 ⟨rfl, hb1⟩; have HB1 := hid hb1; have hq1 := HPS.out.keep ((bthen HW.out.below hb1).block b HB.out); obtain ⟨r0, _, _, _, _⟩ := hq1; dsimp only at r0; clear hb1) | (go_at_call 14; refine (refLocal_any _ _).mono ?_; rintro e w' ⟨rfl, rfl⟩))
    refine wp_rename (fun V => NxAt w ⟨x0, x1, x2, x3⟩ V) (HW.out.keep HB1.out) ?_
    intro V hV
    have HV := hid hV
    clear hV p0 p1 p2 p3 p4 r0
    have hq := HPS.out.keep (HV.out.below.block b HB.out)
    obtain ⟨p0, p1, p2, p3, p4⟩ := hq
    dsimp only at p0 p1 p2 p3 p4
    go_upto_region 4 with fail
    refine wp_rename (fun U => NxMid w ⟨x0, x1, x2, x3⟩ ⟨5, ia, ib, ic, iN⟩ V.heap.size U) (HV.out.boxed _) ?_
    intro U hU
    have HU := hid hU
    clear hU p0 p1 p2 p3 p4
    have g0 := cell_of_blk HU.out.box 0
    have g1 := cell_of_blk HU.out.box 1
    have g2 := cell_of_blk HU.out.box 2
    have g3 := cell_of_blk HU.out.box 3
    have g4 := cell_of_blk HU.out.box 4
    simp only [Ins.cs, List.getElem?_toArray, List.getElem?_cons_zero, List.getElem?_cons_succ] at g0 g1 g2 g3 g4
    have lt1 := lt_of_block HU.out.box
    have lt2 := lt_of_block HU.out.at_.regs
    have ca := Rg.cell HU.out.at_.regs AH.out.1 AH.out.2
    have fa := frozen_of_blk HU.out.at_.regs ia.toNat
    have cb := Rg.cell HU.out.at_.regs BH.out.1 BH.out.2
    have cc := Rg.cell HU.out.at_.regs CH.out.1 CH.out.2
    rw [HY.out] at cb
    rw [HZ.out] at cc
    go_upto_region 22 with fail
    refine wp_region_later_tail 12 (by kernel_rfl) (by kernel_rfl) ?_
    simp only [List.take_succ_cons, List.take_zero, List.drop_succ_cons, List.drop_zero]
    repeat (go_big_quiet_step ((go_at_call 29; with_reducible exact later_same (refTruth_any _ _))))
    refine wpQuiet_nil ?_
    rintro _ ⟨x, rfl⟩
    go_upto_region 27 with fail
    refine wp_rename (fun Z => NxAt w ⟨q0, q1, q2, q3⟩ Z) (by
      have e : bits .xor .i64 y z = v := (rfl).trans HVAL.out
      rw [← HQ.out, ← e]
      exact (HU.out.at_.keep x.below).put AH.out.1 AH.out.2 _) ?_
    intro Z hZ
    have HZZ := hid hZ
    clear hZ g0 g1 g2 g3 g4 ca fa cb cc
    have d0 := cell_of_blk HZZ.out.regs 0
    have d1 := cell_of_blk HZZ.out.regs 1
    have d2 := cell_of_blk HZZ.out.regs 2
    have d3 := cell_of_blk HZZ.out.regs 3
    simp only [Rg.cs, List.getElem?_toArray, List.getElem?_cons_zero, List.getElem?_cons_succ] at d0 d1 d2 d3
    have e0 := cell_of_blk HZZ.out.res 0
    have e1 := cell_of_blk HZZ.out.res 1
    have e2 := cell_of_blk HZZ.out.res 2
    have e3 := cell_of_blk HZZ.out.res 3
    simp only [zero4, List.getElem?_toArray, List.getElem?_cons_zero, List.getElem?_cons_succ] at e0 e1 e2 e3
    have f0 := frozen_of_blk HZZ.out.res 0
    have f1 := frozen_of_blk HZZ.out.res 1
    have f2 := frozen_of_blk HZZ.out.res 2
    have f3 := frozen_of_blk HZZ.out.res 3
    go_region
    go_wp2
    exact bodyPost_ret (v := .tuple #[.int .i64 (k + 1), .agg #[.int .i64 q0, .int .i64 q1, .int .i64 q2, .int .i64 q3], .bool true]) (by simp [results, Try.results19, go_sem, e0, e1, e2, e3]) rfl ⟨rfl, HZZ.out.fin _ _ _ _⟩
  · show Calls _ _ #[_, _, _, .agg #[.int .i64 x0, .int .i64 x1, .int .i64 x2, .int .i64 x3]] _ _
    go_enter Try.func19, Try.ntmps19
    go_upto_region 1 with fail
    refine wp_rename (fun W => NxAt w ⟨x0, x1, x2, x3⟩ W) HX.out ?_
    intro W hW
    have HW := hid hW
    clear hW HX
    have hq := HPS.out.keep (HW.out.below.block b HB.out)
    obtain ⟨p0, p1, p2, p3, p4⟩ := hq
    dsimp only at p0 p1 p2 p3 p4
    go_upto_region 3 with (first | (go_at_call 12; refine (MayInstr_any ⟨6, ia, ib, ic, iN⟩ _).mono ?_; rintro e w1 ⟨rfl, hb1⟩; have HB1 := hid hb1; have hq1 := HPS.out.keep ((bthen HW.out.below hb1).block b HB.out); obtain ⟨r0, _, _, _, _⟩ := hq1; dsimp only at r0; clear hb1) | (go_at_call 14; refine (refLocal_any _ _).mono ?_; rintro e w' ⟨rfl, rfl⟩))
    refine wp_rename (fun V => NxAt w ⟨x0, x1, x2, x3⟩ V) (HW.out.keep HB1.out) ?_
    intro V hV
    have HV := hid hV
    clear hV p0 p1 p2 p3 p4 r0
    have hq := HPS.out.keep (HV.out.below.block b HB.out)
    obtain ⟨p0, p1, p2, p3, p4⟩ := hq
    dsimp only at p0 p1 p2 p3 p4
    go_upto_region 4 with fail
    refine wp_rename (fun U => NxMid w ⟨x0, x1, x2, x3⟩ ⟨6, ia, ib, ic, iN⟩ V.heap.size U) (HV.out.boxed _) ?_
    intro U hU
    have HU := hid hU
    clear hU p0 p1 p2 p3 p4
    have g0 := cell_of_blk HU.out.box 0
    have g1 := cell_of_blk HU.out.box 1
    have g2 := cell_of_blk HU.out.box 2
    have g3 := cell_of_blk HU.out.box 3
    have g4 := cell_of_blk HU.out.box 4
    simp only [Ins.cs, List.getElem?_toArray, List.getElem?_cons_zero, List.getElem?_cons_succ] at g0 g1 g2 g3 g4
    have lt1 := lt_of_block HU.out.box
    have lt2 := lt_of_block HU.out.at_.regs
    have ca := Rg.cell HU.out.at_.regs AH.out.1 AH.out.2
    have fa := frozen_of_blk HU.out.at_.regs ia.toNat
    have cb := Rg.cell HU.out.at_.regs BH.out.1 BH.out.2
    have cc := Rg.cell HU.out.at_.regs CH.out.1 CH.out.2
    rw [HY.out] at cb
    rw [HZ.out] at cc
    go_upto_region 24 with fail
    refine wp_region_later_tail 13 (by kernel_rfl) (by kernel_rfl) ?_
    simp only [List.take_succ_cons, List.take_zero, List.drop_succ_cons, List.drop_zero]
    repeat (go_big_quiet_step ((go_at_call 29; with_reducible exact later_same (refTruth_any _ _))))
    refine wpQuiet_nil ?_
    rintro _ ⟨x, rfl⟩
    go_upto_region 27 with fail
    refine wp_rename (fun Z => NxAt w ⟨q0, q1, q2, q3⟩ Z) (by
      have e : tru (decide (y < z)) = v := (rfl).trans HVAL.out
      rw [← HQ.out, ← e]
      exact (HU.out.at_.keep x.below).put AH.out.1 AH.out.2 _) ?_
    intro Z hZ
    have HZZ := hid hZ
    clear hZ g0 g1 g2 g3 g4 ca fa cb cc
    have d0 := cell_of_blk HZZ.out.regs 0
    have d1 := cell_of_blk HZZ.out.regs 1
    have d2 := cell_of_blk HZZ.out.regs 2
    have d3 := cell_of_blk HZZ.out.regs 3
    simp only [Rg.cs, List.getElem?_toArray, List.getElem?_cons_zero, List.getElem?_cons_succ] at d0 d1 d2 d3
    have e0 := cell_of_blk HZZ.out.res 0
    have e1 := cell_of_blk HZZ.out.res 1
    have e2 := cell_of_blk HZZ.out.res 2
    have e3 := cell_of_blk HZZ.out.res 3
    simp only [zero4, List.getElem?_toArray, List.getElem?_cons_zero, List.getElem?_cons_succ] at e0 e1 e2 e3
    have f0 := frozen_of_blk HZZ.out.res 0
    have f1 := frozen_of_blk HZZ.out.res 1
    have f2 := frozen_of_blk HZZ.out.res 2
    have f3 := frozen_of_blk HZZ.out.res 3
    go_region
    go_wp2
    exact bodyPost_ret (v := .tuple #[.int .i64 (k + 1), .agg #[.int .i64 q0, .int .i64 q1, .int .i64 q2, .int .i64 q3], .bool true]) (by simp [results, Try.results19, go_sem, e0, e1, e2, e3]) rfl ⟨rfl, HZZ.out.fin _ _ _ _⟩
  · show Calls _ _ #[_, _, _, .agg #[.int .i64 x0, .int .i64 x1, .int .i64 x2, .int .i64 x3]] _ _
    go_enter Try.func19, Try.ntmps19
    go_upto_region 1 with fail
    refine wp_rename (fun W => NxAt w ⟨x0, x1, x2, x3⟩ W) HX.out ?_
    intro W hW
    have HW := hid hW
    clear hW HX
    have hq := HPS.out.keep (HW.out.below.block b HB.out)
    obtain ⟨p0, p1, p2, p3, p4⟩ := hq
    dsimp only at p0 p1 p2 p3 p4
    go_upto_region 3 with (first | (go_at_call 12; refine (MayInstr_any ⟨7, ia, ib, ic, iN⟩ _).mono ?_; rintro e w1 ⟨rfl, hb1⟩; have HB1 := hid hb1; have hq1 := HPS.out.keep ((bthen HW.out.below hb1).block b HB.out); obtain ⟨r0, _, _, _, _⟩ := hq1; dsimp only at r0; clear hb1) | (go_at_call 14; refine (refLocal_any _ _).mono ?_; rintro e w' ⟨rfl, rfl⟩))
    refine wp_rename (fun V => NxAt w ⟨x0, x1, x2, x3⟩ V) (HW.out.keep HB1.out) ?_
    intro V hV
    have HV := hid hV
    clear hV p0 p1 p2 p3 p4 r0
    have hq := HPS.out.keep (HV.out.below.block b HB.out)
    obtain ⟨p0, p1, p2, p3, p4⟩ := hq
    dsimp only at p0 p1 p2 p3 p4
    go_upto_region 4 with fail
    refine wp_rename (fun U => NxMid w ⟨x0, x1, x2, x3⟩ ⟨7, ia, ib, ic, iN⟩ V.heap.size U) (HV.out.boxed _) ?_
    intro U hU
    have HU := hid hU
    clear hU p0 p1 p2 p3 p4
    have g0 := cell_of_blk HU.out.box 0
    have g1 := cell_of_blk HU.out.box 1
    have g2 := cell_of_blk HU.out.box 2
    have g3 := cell_of_blk HU.out.box 3
    have g4 := cell_of_blk HU.out.box 4
    simp only [Ins.cs, List.getElem?_toArray, List.getElem?_cons_zero, List.getElem?_cons_succ] at g0 g1 g2 g3 g4
    have lt1 := lt_of_block HU.out.box
    have lt2 := lt_of_block HU.out.at_.regs
    have ca := Rg.cell HU.out.at_.regs AH.out.1 AH.out.2
    have fa := frozen_of_blk HU.out.at_.regs ia.toNat
    have cb := Rg.cell HU.out.at_.regs BH.out.1 BH.out.2
    have cc := Rg.cell HU.out.at_.regs CH.out.1 CH.out.2
    rw [HY.out] at cb
    rw [HZ.out] at cc
    go_upto_region 26 with fail
    refine wp_region_later_tail 13 (by kernel_rfl) (by kernel_rfl) ?_
    simp only [List.take_succ_cons, List.take_zero, List.drop_succ_cons, List.drop_zero]
    repeat (go_big_quiet_step ((go_at_call 29; with_reducible exact later_same (refTruth_any _ _))))
    refine wpQuiet_nil ?_
    rintro _ ⟨x, rfl⟩
    go_upto_region 27 with fail
    refine wp_rename (fun Z => NxAt w ⟨q0, q1, q2, q3⟩ Z) (by
      have e : tru (y == z) = v := (rfl).trans HVAL.out
      rw [← HQ.out, ← e]
      exact (HU.out.at_.keep x.below).put AH.out.1 AH.out.2 _) ?_
    intro Z hZ
    have HZZ := hid hZ
    clear hZ g0 g1 g2 g3 g4 ca fa cb cc
    have d0 := cell_of_blk HZZ.out.regs 0
    have d1 := cell_of_blk HZZ.out.regs 1
    have d2 := cell_of_blk HZZ.out.regs 2
    have d3 := cell_of_blk HZZ.out.regs 3
    simp only [Rg.cs, List.getElem?_toArray, List.getElem?_cons_zero, List.getElem?_cons_succ] at d0 d1 d2 d3
    have e0 := cell_of_blk HZZ.out.res 0
    have e1 := cell_of_blk HZZ.out.res 1
    have e2 := cell_of_blk HZZ.out.res 2
    have e3 := cell_of_blk HZZ.out.res 3
    simp only [zero4, List.getElem?_toArray, List.getElem?_cons_zero, List.getElem?_cons_succ] at e0 e1 e2 e3
    have f0 := frozen_of_blk HZZ.out.res 0
    have f1 := frozen_of_blk HZZ.out.res 1
    have f2 := frozen_of_blk HZZ.out.res 2
    have f3 := frozen_of_blk HZZ.out.res 3
    go_region
    go_wp2
    exact bodyPost_ret (v := .tuple #[.int .i64 (k + 1), .agg #[.int .i64 q0, .int .i64 q1, .int .i64 q2, .int .i64 q3], .bool true]) (by simp [results, Try.results19, go_sem, e0, e1, e2, e3]) rfl ⟨rfl, HZZ.out.fin _ _ _ _⟩

/-- The document's Next: any program, any mates, any place, any registers. -/
theorem refNext_any (a a' : Option Addr) (n c m c' : Nat) (at_ : Int) (ps : List Ins) (ms : List Int) (r : Rg) (w : World) (hr : InsRow w a n ps) (hm : IntRow w a' m ms) (hn : n ≤ 100000) :
    Calls Try.prog 19 #[.slice a n c, .slice a' m c', .int .i64 at_, r.v] w (NextRet (nextF ps ms at_ r) w) := by
  cases hA : amongB at_ n with
  | false =>
    rw [nextF_out (by rw [hr.cnt]; exact hA)]
    exact refNext_out a a' n c m c' at_ r w hA
  | true =>
    obtain ⟨a0, a1⟩ := amongB_iff.1 hA
    obtain ⟨k, rfl⟩ : ∃ k : Nat, at_ = (k : Int) := ⟨at_.toNat, by omega⟩
    have hk : k < n := by omega
    obtain ⟨i, hi⟩ : ∃ i, ps[k]? = some i := ⟨_, List.getElem?_eq_getElem (by rw [hr.cnt]; exact hk)⟩
    have e0 : nextF ps ms k r = if (localB i.op && mayB i) = true then stepF i n ms k r else ((k : Int), r, false) := by
      unfold nextF
      rw [hr.cnt, if_pos hA, Int.toNat_natCast, hi]
    rw [e0]
    cases h2 : mayB i with
    | false =>
      rw [if_neg (by simp)]
      exact refNext_not a a' n c m c' k ps ms i r w hr hn hk hi (.inl h2)
    | true =>
      cases h1 : localB i.op with
      | false =>
        rw [if_neg (by simp)]
        exact refNext_not a a' n c m c' k ps ms i r w hr hn hk hi (.inr ⟨h2, h1⟩)
      | true =>
        rw [if_pos (by rfl)]
        unfold stepF
        rw [hm.1, Int.toNat_natCast]
        cases h3 : jumpB i.op with
        | true =>
          rw [if_pos rfl]
          cases h4 : amongB (k : Int) m with
          | false =>
            rw [if_neg (by simp)]
            exact refNext_lost a a' n c m c' k ps ms i r w hr hn hk hi hm h1 h2 h3 (.inl h4)
          | true =>
            cases h5 : amongB (ms.getD k 0) n with
            | false =>
              rw [if_neg (by simp)]
              exact refNext_lost a a' n c m c' k ps ms i r w hr hn hk hi hm h1 h2 h3 (.inr ⟨h4, h5⟩)
            | true =>
              rw [if_pos (by rfl)]
              exact refNext_jump a a' n c m c' k ps ms i r w hr hn hk hi hm h1 h2 h3 h4 h5
        | false =>
          rw [if_neg (by simp)]
          have g1 := of_decide_eq_false h3
          have g2 := of_decide_eq_true h1
          by_cases h4 : i.op = 20
          · rw [if_pos h4]
            exact refNext_end a a' n c m c' k ps ms i r w hr hn hk hi h1 h2 h4
          · rw [if_neg h4]
            exact refNext_sum a a' n c m c' k ps ms i r w hr hn hk hi h1 h2 (by omega)

end Go.Proofs.Ytjnpfjalgjecnaa
