/-
  eval.Next.
-/
import Derived.Test.YthhgeanmlpmokaaNext3
import Derived.BigRegion
import Derived.StillTailTactics
namespace Go.Proofs.Ythhgeanmlpmokaa
open Go.RowKit
set_option linter.unusedVariables false

def jumpB (op : Int) : Bool := decide (op = 18 ∨ op = 19 ∨ op = 21 ∨ op = 22)
/-- Where it goes on, the registers, and whether it was done. -/
def stepF (i : Ins) (np : Nat) (ms : List Int) (at_ : Int) (r : Rg) : Int × Rg × Bool :=
  if jumpB i.op = true then
    if (amongB at_ ms.length && amongB (ms.getD at_.toNat 0) np) = true then (turnF i.op (r.get i.a) at_ (ms.getD at_.toNat 0), r, true) else (at_, r, false)
  else if i.op = 20 then (at_ + 1, r, true) else (at_ + 1, r.put i.a (valueF i r), true)
def nextF (ps : List Ins) (ms : List Int) (at_ : Int) (r : Rg) : Int × Rg × Bool :=
  if amongB at_ ps.length = true then
    match ps[at_.toNat]? with
    | none => (at_, r, false)
    | some i => if (localB i.op && mayB i) = true then stepF i ps.length ms at_ r else (at_, r, false)
  else (at_, r, false)
def zero4 : Array Value := #[.int .i64 0, .int .i64 0, .int .i64 0, .int .i64 0]

structure NxAt (w : World) (r : Rg) (W : World) : Prop where
  regs : W.heap[w.heap.size]? = some (.cells r.cs 31 (0, 0))
  res : W.heap[w.heap.size + 1]? = some (.cells zero4 31 (0, 0))
  below : Below w.heap.size w W
theorem NxAt.new (w : World) (r : Rg) : NxAt w r ((w.alloc (.cells r.cs 31)).alloc (.cells zero4 31)) := by
  refine ⟨?_, ?_, bnew (bnew (bid w) _) _⟩
  · rw [Below.heap_alloc _ _ _ (by simp)]
    exact heap_alloc_new _ _
  · have := heap_alloc_new (w.alloc (.cells r.cs 31)) (.cells zero4 31)
    rw [size_alloc1] at this
    exact this
theorem NxAt.keep {w W W' : World} {r : Rg} (h : NxAt w r W) (hb : Below W.heap.size W W') : NxAt w r W' :=
  ⟨(hb.block _ (lt_of_block h.regs)).trans h.regs, (hb.block _ (lt_of_block h.res)).trans h.res, bthen h.below hb⟩

/-- What is handed back. -/
def NextRet (x : Int × Rg × Bool) (w : World) (e : Ending) (w' : World) : Prop := e = .returned (.tuple #[.int .i64 x.1, x.2.1.v, .bool x.2.2]) ∧ Below w.heap.size w w'

theorem nextF_out {ps : List Ins} {ms : List Int} {at_ : Int} {r : Rg} (h : amongB at_ ps.length = false) : nextF ps ms at_ r = (at_, r, false) := by unfold nextF; rw [h]; rfl

attribute [local go_sem] Later.cell Later.frozen

/-- The last statement of each way: the registers into the result's own block. -/
theorem NxAt.fin {w W : World} {r : Rg} (h : NxAt w r W) (u0 u1 u2 u3 : Value) :
    Below w.heap.size w ((((W.setCell ⟨w.heap.size + 1, 0, none⟩ u0).setCell ⟨w.heap.size + 1, 1, none⟩ u1).setCell ⟨w.heap.size + 1, 2, none⟩ u2).setCell ⟨w.heap.size + 1, 3, none⟩ u3).drew :=
  bdrew ((((h.below.setCell (by simp) _).setCell (by simp) _).setCell (by simp) _).setCell (by simp) _)

/-- Behind the third statement: the instruction in a block of its own. -/
structure NxMid (w : World) (r : Rg) (i : Ins) (h11 : Nat) (W : World) : Prop where
  at_ : NxAt w r W
  box : W.heap[h11]? = some (.cells i.cs 27 (0, 0))
theorem NxAt.boxed {w W : World} {r : Rg} (h : NxAt w r W) (i : Ins) : NxMid w r i W.heap.size (W.alloc (.cells i.cs 27)) := ⟨h.keep (bnew (bid W) _), heap_alloc_new _ _⟩
theorem NxAt.put {w W : World} {r : Rg} (h : NxAt w r W) {a : Int} (h0 : 0 ≤ a) (h1 : a < 4) (v : Int) : NxAt w (r.put a v) (W.setCell ⟨w.heap.size, a.toNat, none⟩ (.int .i64 v)) :=
  ⟨Rg.stored h.regs h0 h1 v, by rw [Below.heap_setCell _ _ _ _ (by simp)]; exact h.res, h.below.setCell (Nat.le_refl _) _⟩

theorem may_regs {i : Ins} (h : mayB i = true) : opB i.op = true ∧ (0 ≤ i.a ∧ i.a < limA i.op) ∧ (0 ≤ i.b ∧ i.b < limB i.op) ∧ (0 ≤ i.c ∧ i.c < limC i.op) := by
  unfold mayB at h
  simp only [Bool.and_eq_true] at h
  exact ⟨h.1.1.1.1, amongB_iff.1 h.1.1.1.2, amongB_iff.1 h.1.1.2, amongB_iff.1 h.1.2⟩
theorem sum_regs {i : Ins} (h : mayB i = true) (ho : 1 ≤ i.op ∧ i.op ≤ 7) : (0 ≤ i.a ∧ i.a < 4) ∧ (0 ≤ i.b ∧ i.b < 4) ∧ (0 ≤ i.c ∧ i.c < 4) := by
  obtain ⟨_, ⟨a0, a1⟩, ⟨b0, b1⟩, c0, c1⟩ := may_regs h
  obtain ⟨op, a, b, c, n⟩ := i
  dsimp only at *
  have : op = 1 ∨ op = 2 ∨ op = 3 ∨ op = 4 ∨ op = 5 ∨ op = 6 ∨ op = 7 := by omega
  rcases this with rfl | rfl | rfl | rfl | rfl | rfl | rfl <;> simp only [limA, limB, limC] at a1 b1 c1 <;> simp at a1 b1 c1 <;> omega
theorem if_regs {i : Ins} (h : mayB i = true) (ho : i.op = 18 ∨ i.op = 21) : 0 ≤ i.a ∧ i.a < 4 := by
  obtain ⟨_, ⟨a0, a1⟩, _⟩ := may_regs h
  obtain ⟨op, a, b, c, n⟩ := i
  dsimp only at *
  rcases ho with rfl | rfl <;> simp only [limA] at a1 <;> simp at a1 <;> omega

set_option maxRecDepth 100000 in
set_option maxHeartbeats 4000000 in
theorem Next_out (a a' : Option Addr) (n c m c' : Nat) (at_ : Int) (r : Rg) (w : World) (h : amongB at_ n = false) :
    Calls Try.prog 6 #[.slice a n c, .slice a' m c', .int .i64 at_, r.v] w (NextRet (at_, r, false) w) := by
  have HX := hid (NxAt.new w r)
  obtain ⟨x0, x1, x2, x3⟩ := r
  show Calls _ _ #[_, _, _, .agg #[.int .i64 x0, .int .i64 x1, .int .i64 x2, .int .i64 x3]] _ _
  go_enter Try.func6, Try.ntmps6
  go_upto_region 1 with fail
  refine wp_rename (fun W => NxAt w ⟨x0, x1, x2, x3⟩ W) HX.out ?_
  intro W hW
  have HW := hid hW
  clear hW HX
  go_upto_region 2 with (go_at_call 9; refine (among_any _ _ _).mono ?_; rintro e w' ⟨rfl, rfl⟩)
  have d0 := cell_of_blk HW.out.regs 0
  have d1 := cell_of_blk HW.out.regs 1
  have d2 := cell_of_blk HW.out.regs 2
  have d3 := cell_of_blk HW.out.regs 3
  simp only [Rg.cs, List.getElem?_toArray, List.getElem?_cons_zero, List.getElem?_cons_succ] at d0 d1 d2 d3
  have e0 := cell_of_blk HW.out.res 0
  have e1 := cell_of_blk HW.out.res 1
  have e2 := cell_of_blk HW.out.res 2
  have e3 := cell_of_blk HW.out.res 3
  simp only [zero4, List.getElem?_toArray, List.getElem?_cons_zero, List.getElem?_cons_succ] at e0 e1 e2 e3
  have f0 := frozen_of_blk HW.out.res 0
  have f1 := frozen_of_blk HW.out.res 1
  have f2 := frozen_of_blk HW.out.res 2
  have f3 := frozen_of_blk HW.out.res 3
  go_region
  go_wp2
  exact bodyPost_ret (v := .tuple #[.int .i64 (at_), .agg #[.int .i64 x0, .int .i64 x1, .int .i64 x2, .int .i64 x3], .bool false]) (by simp [results, Try.results6, go_sem, e0, e1, e2, e3]) rfl ⟨rfl, HW.out.fin _ _ _ _⟩

set_option maxRecDepth 100000 in
set_option maxHeartbeats 4000000 in
theorem Next_not (a a' : Option Addr) (n c m c' k : Nat) (ps : List Ins) (ms : List Int) (i : Ins) (r : Rg) (w : World) (hr : InsRow w a n ps) (hn : n ≤ 100000) (hk : k < n) (hi : ps[k]? = some i) (h : localB i.op = false ∨ localB i.op = true ∧ mayB i = false) :
    Calls Try.prog 6 #[.slice a n c, .slice a' m c', .int .i64 (k : Int), r.v] w (NextRet ((k : Int), r, false) w) := by
  obtain ⟨b, off, rfl, hb, hps⟩ := hr.at (by omega)
  have HX := hid (NxAt.new w r)
  obtain ⟨x0, x1, x2, x3⟩ := r
  obtain ⟨op, ia, ib, ic, iN⟩ := i
  have hAt := hps k _ hi
  have HPS := hid hAt
  have HB := hid hb
  have hA := amongB_yes (n := (k : Int)) (m := (n : Int)) (by omega) (by omega)
  have i1 : (0 : Int) ≤ (k : Int) := by omega
  have i2 : (k : Int) < (n : Int) := by omega
  clear hps hAt hb hr
  dsimp only at h
  rcases h with h1 | ⟨h1, h2⟩
  · show Calls _ _ #[_, _, _, .agg #[.int .i64 x0, .int .i64 x1, .int .i64 x2, .int .i64 x3]] _ _
    go_enter Try.func6, Try.ntmps6
    go_upto_region 1 with fail
    refine wp_rename (fun W => NxAt w ⟨x0, x1, x2, x3⟩ W) HX.out ?_
    intro W hW
    have HW := hid hW
    clear hW HX
    have hq := HPS.out.keep (HW.out.below.block b HB.out)
    obtain ⟨p0, p1, p2, p3, p4⟩ := hq
    dsimp only at p0 p1 p2 p3 p4
    go_upto_region 2 with (first | (go_at_call 9; refine (among_any _ _ _).mono ?_; rintro e w' ⟨rfl, rfl⟩) | (go_at_call 10; refine (Local_any _ _).mono ?_; rintro e w' ⟨rfl, rfl⟩) | (go_at_call 11; refine (May_any ⟨op, ia, ib, ic, iN⟩ _).mono ?_; rintro e w1 ⟨rfl, hb1⟩; have HB1 := hid hb1; clear hb1))
    clear p0 p1 p2 p3 p4
    have d0 := cell_of_blk HW.out.regs 0
    have d1 := cell_of_blk HW.out.regs 1
    have d2 := cell_of_blk HW.out.regs 2
    have d3 := cell_of_blk HW.out.regs 3
    simp only [Rg.cs, List.getElem?_toArray, List.getElem?_cons_zero, List.getElem?_cons_succ] at d0 d1 d2 d3
    have e0 := cell_of_blk HW.out.res 0
    have e1 := cell_of_blk HW.out.res 1
    have e2 := cell_of_blk HW.out.res 2
    have e3 := cell_of_blk HW.out.res 3
    simp only [zero4, List.getElem?_toArray, List.getElem?_cons_zero, List.getElem?_cons_succ] at e0 e1 e2 e3
    have f0 := frozen_of_blk HW.out.res 0
    have f1 := frozen_of_blk HW.out.res 1
    have f2 := frozen_of_blk HW.out.res 2
    have f3 := frozen_of_blk HW.out.res 3
    go_region
    go_wp2
    exact bodyPost_ret (v := .tuple #[.int .i64 (k), .agg #[.int .i64 x0, .int .i64 x1, .int .i64 x2, .int .i64 x3], .bool false]) (by simp [results, Try.results6, go_sem, e0, e1, e2, e3]) rfl ⟨rfl, HW.out.fin _ _ _ _⟩
  · show Calls _ _ #[_, _, _, .agg #[.int .i64 x0, .int .i64 x1, .int .i64 x2, .int .i64 x3]] _ _
    go_enter Try.func6, Try.ntmps6
    go_upto_region 1 with fail
    refine wp_rename (fun W => NxAt w ⟨x0, x1, x2, x3⟩ W) HX.out ?_
    intro W hW
    have HW := hid hW
    clear hW HX
    have hq := HPS.out.keep (HW.out.below.block b HB.out)
    obtain ⟨p0, p1, p2, p3, p4⟩ := hq
    dsimp only at p0 p1 p2 p3 p4
    go_upto_region 2 with (first | (go_at_call 9; refine (among_any _ _ _).mono ?_; rintro e w' ⟨rfl, rfl⟩) | (go_at_call 10; refine (Local_any _ _).mono ?_; rintro e w' ⟨rfl, rfl⟩) | (go_at_call 11; refine (May_any ⟨op, ia, ib, ic, iN⟩ _).mono ?_; rintro e w1 ⟨rfl, hb1⟩; have HB1 := hid hb1; clear hb1))
    refine wp_rename (fun V => NxAt w ⟨x0, x1, x2, x3⟩ V) (HW.out.keep HB1.out) ?_
    intro V hV
    have HV := hid hV
    clear hV p0 p1 p2 p3 p4
    have d0 := cell_of_blk HV.out.regs 0
    have d1 := cell_of_blk HV.out.regs 1
    have d2 := cell_of_blk HV.out.regs 2
    have d3 := cell_of_blk HV.out.regs 3
    simp only [Rg.cs, List.getElem?_toArray, List.getElem?_cons_zero, List.getElem?_cons_succ] at d0 d1 d2 d3
    have e0 := cell_of_blk HV.out.res 0
    have e1 := cell_of_blk HV.out.res 1
    have e2 := cell_of_blk HV.out.res 2
    have e3 := cell_of_blk HV.out.res 3
    simp only [zero4, List.getElem?_toArray, List.getElem?_cons_zero, List.getElem?_cons_succ] at e0 e1 e2 e3
    have f0 := frozen_of_blk HV.out.res 0
    have f1 := frozen_of_blk HV.out.res 1
    have f2 := frozen_of_blk HV.out.res 2
    have f3 := frozen_of_blk HV.out.res 3
    go_region
    go_wp2
    exact bodyPost_ret (v := .tuple #[.int .i64 (k), .agg #[.int .i64 x0, .int .i64 x1, .int .i64 x2, .int .i64 x3], .bool false]) (by simp [results, Try.results6, go_sem, e0, e1, e2, e3]) rfl ⟨rfl, HV.out.fin _ _ _ _⟩

set_option maxRecDepth 100000 in
set_option maxHeartbeats 4000000 in
theorem Next_end (a a' : Option Addr) (n c m c' k : Nat) (ps : List Ins) (ms : List Int) (i : Ins) (r : Rg) (w : World) (hr : InsRow w a n ps) (hn : n ≤ 100000) (hk : k < n) (hi : ps[k]? = some i) (h1 : localB i.op = true) (h2 : mayB i = true) (ho : i.op = 20) :
    Calls Try.prog 6 #[.slice a n c, .slice a' m c', .int .i64 (k : Int), r.v] w (NextRet ((k : Int) + 1, r, true) w) := by
  obtain ⟨b, off, rfl, hb, hps⟩ := hr.at (by omega)
  have HX := hid (NxAt.new w r)
  obtain ⟨x0, x1, x2, x3⟩ := r
  obtain ⟨op, ia, ib, ic, iN⟩ := i
  have hAt := hps k _ hi
  have HPS := hid hAt
  have HB := hid hb
  have hA := amongB_yes (n := (k : Int)) (m := (n : Int)) (by omega) (by omega)
  have i1 : (0 : Int) ≤ (k : Int) := by omega
  have i2 : (k : Int) < (n : Int) := by omega
  clear hps hAt hb hr
  dsimp only at h1 h2 ho
  subst ho
  show Calls _ _ #[_, _, _, .agg #[.int .i64 x0, .int .i64 x1, .int .i64 x2, .int .i64 x3]] _ _
  go_enter Try.func6, Try.ntmps6
  go_upto_region 1 with fail
  refine wp_rename (fun W => NxAt w ⟨x0, x1, x2, x3⟩ W) HX.out ?_
  intro W hW
  have HW := hid hW
  clear hW HX
  have hq := HPS.out.keep (HW.out.below.block b HB.out)
  obtain ⟨p0, p1, p2, p3, p4⟩ := hq
  dsimp only at p0 p1 p2 p3 p4
  go_upto_region 3 with (first | (go_at_call 9; refine (among_any _ _ _).mono ?_; rintro e w' ⟨rfl, rfl⟩) | (go_at_call 10; refine (Local_any _ _).mono ?_; rintro e w' ⟨rfl, rfl⟩) | (go_at_call 11; refine (May_any ⟨20, ia, ib, ic, iN⟩ _).mono ?_; rintro e w1 ⟨rfl, hb1⟩; have HB1 := hid hb1; clear hb1))
  refine wp_rename (fun V => NxAt w ⟨x0, x1, x2, x3⟩ V) (HW.out.keep HB1.out) ?_
  intro V hV
  have HV := hid hV
  clear hV p0 p1 p2 p3 p4
  have hq := HPS.out.keep (HV.out.below.block b HB.out)
  obtain ⟨p0, p1, p2, p3, p4⟩ := hq
  dsimp only at p0 p1 p2 p3 p4
  go_upto_region 4 with fail
  refine wp_rename (fun U => NxMid w ⟨x0, x1, x2, x3⟩ ⟨20, ia, ib, ic, iN⟩ V.heap.size U) (HV.out.boxed _) ?_
  intro U hU
  have HU := hid hU
  clear hU p0 p1 p2 p3 p4
  have g0 := cell_of_blk HU.out.box 0
  have g1 := cell_of_blk HU.out.box 1
  have g2 := cell_of_blk HU.out.box 2
  have g3 := cell_of_blk HU.out.box 3
  have g4 := cell_of_blk HU.out.box 4
  simp only [Ins.cs, List.getElem?_toArray, List.getElem?_cons_zero, List.getElem?_cons_succ] at g0 g1 g2 g3 g4
  have lt1 := lt_of_block HU.out.box
  have lt2 := lt_of_block HU.out.at_.regs
  go_upto_region 14 with fail
  have d0 := cell_of_blk HU.out.at_.regs 0
  have d1 := cell_of_blk HU.out.at_.regs 1
  have d2 := cell_of_blk HU.out.at_.regs 2
  have d3 := cell_of_blk HU.out.at_.regs 3
  simp only [Rg.cs, List.getElem?_toArray, List.getElem?_cons_zero, List.getElem?_cons_succ] at d0 d1 d2 d3
  have e0 := cell_of_blk HU.out.at_.res 0
  have e1 := cell_of_blk HU.out.at_.res 1
  have e2 := cell_of_blk HU.out.at_.res 2
  have e3 := cell_of_blk HU.out.at_.res 3
  simp only [zero4, List.getElem?_toArray, List.getElem?_cons_zero, List.getElem?_cons_succ] at e0 e1 e2 e3
  have f0 := frozen_of_blk HU.out.at_.res 0
  have f1 := frozen_of_blk HU.out.at_.res 1
  have f2 := frozen_of_blk HU.out.at_.res 2
  have f3 := frozen_of_blk HU.out.at_.res 3
  go_region
  go_wp2
  exact bodyPost_ret (v := .tuple #[.int .i64 (k + 1), .agg #[.int .i64 x0, .int .i64 x1, .int .i64 x2, .int .i64 x3], .bool true]) (by simp [results, Try.results6, go_sem, e0, e1, e2, e3]) rfl ⟨rfl, HU.out.at_.fin _ _ _ _⟩

end Go.Proofs.Ythhgeanmlpmokaa
