/-
  EvalSums, walked.
-/
import Derived.Test.YtjnpfjalgjecnaaETold
import Derived.IntWalk
import Derived.OpenShut
namespace Go.Proofs.Ytjnpfjalgjecnaa
open Go.RowKit
set_option linter.unusedVariables false

theorem xor_self64 (a : Int) : bits .xor .i64 a a = 0 := by
  show IntKind.i64.wrap ((BitVec.ofInt 64 a ^^^ BitVec.ofInt 64 a).toNat : Int) = 0
  rw [BitVec.xor_self]
  rfl
theorem wrap_back (x y : Int) (h : wrap64 x = x) : wrap64 (wrap64 (x + y) - y) = x := by
  have : wrap64 (wrap64 (x + y) - y) = wrap64 x := by unfold wrap64; omega
  rw [this, h]

def sumP : List Ins := [⟨2, 2, 0, 1, 0⟩, ⟨3, 2, 2, 1, 0⟩, ⟨7, 3, 2, 0, 0⟩, ⟨5, 1, 1, 1, 0⟩, ⟨4, 0, 0, 1, 0⟩, ⟨6, 2, 1, 0, 0⟩]
def lone6 : List Int := [-1, -1, -1, -1, -1, -1]
def sumR (r : Rg) : Nat → Rg
  | 0 => r
  | k + 1 => (nextF sumP lone6 k (sumR r k)).2.1
theorem sumR_step (r : Rg) (k : Nat) (hk : k < 6) : nextF sumP lone6 k (sumR r k) = ((k : Int) + 1, sumR r (k + 1), true) := by
  have : k = 0 ∨ k = 1 ∨ k = 2 ∨ k = 3 ∨ k = 4 ∨ k = 5 := by omega
  rcases this with rfl | rfl | rfl | rfl | rfl | rfl <;> rfl
theorem sumR_end (r : Rg) (h : wrap64 r.x0 = r.x0) : sumR r 6 = ⟨0, 0, 0, 1⟩ := by
  obtain ⟨x0, x1, x2, x3⟩ := r
  dsimp only at h
  have e2 : sumR ⟨x0, x1, x2, x3⟩ 2 = ⟨x0, x1, x0, x3⟩ := by
    show Rg.mk x0 x1 (wrap64 (wrap64 (x0 + x1) - x1)) x3 = _
    rw [wrap_back _ _ h]
  have e3 : sumR ⟨x0, x1, x2, x3⟩ 3 = ⟨x0, x1, x0, 1⟩ := by
    show (nextF sumP lone6 2 (sumR ⟨x0, x1, x2, x3⟩ 2)).2.1 = _
    rw [e2]
    show Rg.mk x0 x1 x0 (tru (x0 == x0)) = _
    simp [tru]
  have e4 : sumR ⟨x0, x1, x2, x3⟩ 4 = ⟨x0, 0, x0, 1⟩ := by
    show (nextF sumP lone6 3 (sumR ⟨x0, x1, x2, x3⟩ 3)).2.1 = _
    rw [e3]
    show Rg.mk x0 (bits .xor .i64 x1 x1) x0 1 = _
    rw [xor_self64]
  have e5 : sumR ⟨x0, x1, x2, x3⟩ 5 = ⟨0, 0, x0, 1⟩ := by
    show (nextF sumP lone6 4 (sumR ⟨x0, x1, x2, x3⟩ 4)).2.1 = _
    rw [e4]
    show Rg.mk (wrap64 (x0 * 0)) 0 x0 1 = _
    rw [Int.mul_zero, show wrap64 0 = 0 by unfold wrap64; omega]
  show (nextF sumP lone6 5 (sumR ⟨x0, x1, x2, x3⟩ 5)).2.1 = _
  rw [e5]
  rfl

theorem less_one (r : Rg) : nextF [⟨6, 3, 0, 1, 0⟩] [-1] 0 r = (1, ⟨r.x0, r.x1, r.x2, tru (decide (r.x0 < r.x1))⟩, true) := rfl
theorem less_two (r : Rg) : nextF [⟨6, 3, 1, 0, 0⟩] [-1] 0 r = (1, ⟨r.x0, r.x1, r.x2, tru (decide (r.x1 < r.x0))⟩, true) := rfl

structure SumAt (w : World) (r q : Rg) (W : World) : Prop where
  regs : W.heap[w.heap.size]? = some (.cells r.cs 38 (0, 0))
  prog : InsRow W (some ⟨w.heap.size + 1, 0, none⟩) 6 sumP
  box : W.heap[w.heap.size + 1 + 1]? = some (.cells q.cs 38 (0, 0))
  below : Below w.heap.size w W
theorem SumAt.keep {w W W' : World} {r q : Rg} (h : SumAt w r q W) (hb : Below W.heap.size W W') : SumAt w r q W' :=
  ⟨(hb.block _ (lt_of_block h.regs)).trans h.regs, h.prog.below hb, (hb.block _ (lt_of_block h.box)).trans h.box, bthen h.below hb⟩
theorem SumAt.new (w : World) (r : Rg) : SumAt w r r (((w.alloc (.cells r.cs 38)).alloc (.cells (insCells sumP).toArray 24)).alloc (.cells r.cs 38)) := by
  have hp := InsRow.lit sumP 6 (w.alloc (.cells r.cs 38)) 24 (insCells sumP).toArray rfl rfl
  rw [size_alloc1] at hp
  refine ⟨?_, hp.below (bnew (bid _) _), ?_, bnew (bnew (bnew (bid w) _) _) _⟩
  · rw [Below.heap_alloc _ _ _ (by simp; omega), Below.heap_alloc _ _ _ (by simp)]
    exact heap_alloc_new _ _
  · have := heap_alloc_new ((w.alloc (.cells r.cs 38)).alloc (.cells (insCells sumP).toArray 24)) (.cells r.cs 38)
    rw [size_alloc2] at this
    exact this
/-- All four registers stored anew. -/
theorem SumAt.put {w W : World} {r q q' : Rg} (h : SumAt w r q W) : SumAt w r q' ((((W.setCell ⟨w.heap.size + 1 + 1, 0, none⟩ (.int .i64 q'.x0)).setCell ⟨w.heap.size + 1 + 1, 1, none⟩ (.int .i64 q'.x1)).setCell ⟨w.heap.size + 1 + 1, 2, none⟩ (.int .i64 q'.x2)).setCell ⟨w.heap.size + 1 + 1, 3, none⟩ (.int .i64 q'.x3)) := by
  have hne : ∀ (V : World) j u b, b ≠ w.heap.size + 1 + 1 → (V.setCell ⟨w.heap.size + 1 + 1, j, none⟩ u).heap[b]? = V.heap[b]? := fun V j u b hb => Below.heap_setCell _ _ _ _ hb
  refine ⟨?_, ?_, ?_, (((h.below.setCell (by dsimp only; omega) _).setCell (by dsimp only; omega) _).setCell (by dsimp only; omega) _).setCell (by dsimp only; omega) _⟩
  · rw [hne _ _ _ _ (by omega), hne _ _ _ _ (by omega), hne _ _ _ _ (by omega), hne _ _ _ _ (by omega)]
    exact h.regs
  · refine h.prog.keep (by simp) fun x hx => ?_
    cases hx
    rw [hne _ _ _ _ (by dsimp only; omega), hne _ _ _ _ (by dsimp only; omega), hne _ _ _ _ (by dsimp only; omega), hne _ _ _ _ (by dsimp only; omega)]
  · exact blk_setCell (blk_setCell (blk_setCell (blk_setCell h.box _ _) _ _) _ _) _ _

set_option maxRecDepth 100000 in
set_option maxHeartbeats 4000000 in
theorem sums_walk (x0 x1 x2 x3 : Int) (w : World) (hx : wrap64 x0 = x0) :
    Calls Try.prog 7 #[.agg #[.int .i64 x0, .int .i64 x1, .int .i64 x2, .int .i64 x3]] w fun e w' => e = .returned (.bool true) ∧ Below w.heap.size w w' := by
  have HX := hid (SumAt.new w ⟨x0, x1, x2, x3⟩)
  have HE := hid (sumR_end ⟨x0, x1, x2, x3⟩ hx)
  have H6 := hid (show 6 ≤ 100000 by decide)
  have H1 := hid (show 1 ≤ 100000 by decide)
  clear hx
  go_enter Try.func7, Try.ntmps7
  go_upto_region 3 with fail
  refine wp_rename (fun W => SumAt w ⟨x0, x1, x2, x3⟩ ⟨x0, x1, x2, x3⟩ W) HX.out ?_
  intro W hW
  have HW := hid hW
  clear hW HX
  go_wp2
  go_loopw [5] (fun i wr => ∃ k : Nat, k ≤ 6 ∧ i = .int .i64 k ∧ SumAt w ⟨x0, x1, x2, x3⟩ (sumR ⟨x0, x1, x2, x3⟩ k) wr) (fun i _ => 6 - (intOf i).toNat)
  case atStart => exact ⟨0, by decide, rfl, HW.out⟩
  case round =>
    clear HW
    obtain ⟨k, hk, rfl, hw⟩ := hrel
    have HW := hid hw
    clear hw
    by_cases hlt : k < 6
    · have i1 : (0 : Int) ≤ (k : Int) := by omega
      have i2 : (k : Int) < 6 := by omega
      have HS := hid (sumR_step ⟨x0, x1, x2, x3⟩ k hlt)
      obtain ⟨q, hq⟩ : ∃ q, sumR ⟨x0, x1, x2, x3⟩ k = q := ⟨_, rfl⟩
      obtain ⟨p, hp⟩ : ∃ p, sumR ⟨x0, x1, x2, x3⟩ (k + 1) = p := ⟨_, rfl⟩
      rw [hq, hp] at HS
      rw [hq] at HW
      have HP := hid hp
      clear hq hp
      obtain ⟨q0, q1, q2, q3⟩ := q
      obtain ⟨p0, p1, p2, p3⟩ := p
      have c0 := cell_of_blk HW.out.box 0
      have c1 := cell_of_blk HW.out.box 1
      have c2 := cell_of_blk HW.out.box 2
      have c3 := cell_of_blk HW.out.box 3
      simp only [Rg.cs, List.getElem?_toArray, List.getElem?_cons_zero, List.getElem?_cons_succ] at c0 c1 c2 c3
      have HI := hid (HW.out.prog.below (bnew (bid wr) (.cells #[.int .i64 (-1), .int .i64 (-1), .int .i64 (-1), .int .i64 (-1), .int .i64 (-1), .int .i64 (-1)] 3)))
      have HJ := hid (IntRow.lit lone6 3 wr #[.int .i64 (-1), .int .i64 (-1), .int .i64 (-1), .int .i64 (-1), .int .i64 (-1), .int .i64 (-1)] rfl 6 rfl)
      have lt := lt_of_block HW.out.box
      go_upto_region 9 with (go_at_call 18; go_must ((with_reducible refine (Next_any _ _ _ _ _ _ _ sumP lone6 ⟨q0, q1, q2, q3⟩ _ HI.out HJ.out H6.out).mono ?_); rintro e w2 hm; rw [HS.out] at hm; obtain ⟨rfl, hb2⟩ := hm; have HB2 := hid (bthen (bnew (bid wr) _) hb2); clear hb2))
      refine wp_rename (fun V => SumAt w ⟨x0, x1, x2, x3⟩ ⟨q0, q1, q2, q3⟩ V ∧ V.heap[w2.heap.size]? = some (.cells (Rg.cs ⟨p0, p1, p2, p3⟩) 38 (0, 0))) ⟨HW.out.keep (bnew HB2.out _), heap_alloc_new _ _⟩ ?_
      rintro V ⟨hV1, hV2⟩
      have HV := hid hV1
      clear hV1 HI HJ HB2 c0 c1 c2 c3 HW lt
      have d0 := cell_of_blk hV2 0
      have d1 := cell_of_blk hV2 1
      have d2 := cell_of_blk hV2 2
      have d3 := cell_of_blk hV2 3
      have e0 := cell_of_blk HV.out.box 0
      have e1 := cell_of_blk HV.out.box 1
      have e2 := cell_of_blk HV.out.box 2
      have e3 := cell_of_blk HV.out.box 3
      have f0 := frozen_of_blk HV.out.box 0
      have f1 := frozen_of_blk HV.out.box 1
      have f2 := frozen_of_blk HV.out.box 2
      have f3 := frozen_of_blk HV.out.box 3
      simp only [Rg.cs, List.getElem?_toArray, List.getElem?_cons_zero, List.getElem?_cons_succ] at d0 d1 d2 d3 e0 e1 e2 e3
      clear hV2
      go_wp2
      go_roundw
      case rel => exact ⟨k + 1, by omega, by go_num, by rw [HP.out]; exact HV.out.put (q' := ⟨p0, p1, p2, p3⟩)⟩
      case measure => simp [intOf]; omega
    · obtain rfl : k = 6 := by omega
      rw [HE.out] at HW
      clear HE
      have L1 : ∃ u v, u = tru (decide (x0 < x1)) ∧ v = tru (decide (x1 < x0)) ∧ ((u = 1 ∧ v = 0 ∧ decide (x0 < x1) = true) ∨ (u = 0 ∧ (v = 0 ∨ v = 1) ∧ decide (x0 < x1) = false)) := by
        refine ⟨_, _, rfl, rfl, ?_⟩
        by_cases h : x0 < x1
        · left; exact ⟨by simp [tru, h], by have : ¬ x1 < x0 := by omega
                                            simp [tru, this], decide_eq_true h⟩
        · right; refine ⟨by simp [tru, h], ?_, decide_eq_false h⟩
          by_cases h2 : x1 < x0 <;> simp [tru, h2]
      obtain ⟨u, v, hu, hv, huv⟩ := L1
      have HL1 := hid (less_one ⟨x0, x1, x2, x3⟩)
      have HL2 := hid (less_two ⟨x0, x1, x2, x3⟩)
      dsimp only at HL1 HL2
      rw [← hu] at HL1
      rw [← hv] at HL2
      clear hu hv
      have HUV := hid huv
      clear huv
      have c0 := cell_of_blk HW.out.regs 0
      have c1 := cell_of_blk HW.out.regs 1
      have c2 := cell_of_blk HW.out.regs 2
      have c3 := cell_of_blk HW.out.regs 3
      simp only [Rg.cs, List.getElem?_toArray, List.getElem?_cons_zero, List.getElem?_cons_succ] at c0 c1 c2 c3
      have lt := lt_of_block HW.out.regs
      have HI := hid ((InsRow.lit [⟨6, 3, 0, 1, 0⟩] 1 wr 24 #[.int .i64 6, .int .i64 3, .int .i64 0, .int .i64 1, .int .i64 0] rfl rfl).below (bnew (bid _) (.cells #[.int .i64 (-1)] 3)))
      have HJ := hid (IntRow.lit [-1] 3 (wr.alloc (.cells #[.int .i64 6, .int .i64 3, .int .i64 0, .int .i64 1, .int .i64 0] 24)) #[.int .i64 (-1)] rfl 1 rfl)
      rw [size_alloc1] at HJ
      go_upto_region 11 with (go_at_call 18; go_must ((with_reducible refine (Next_any _ _ _ _ _ _ _ [⟨6, 3, 0, 1, 0⟩] [-1] ⟨x0, x1, x2, x3⟩ _ HI.out HJ.out H1.out).mono ?_); rintro e w2 hm; rw [HL1.out] at hm; obtain ⟨rfl, hb2⟩ := hm; have HB2 := hid (bthen (bnew (bnew (bid wr) _) _) hb2); clear hb2))
      refine wp_rename (fun V => SumAt w ⟨x0, x1, x2, x3⟩ ⟨0, 0, 0, 1⟩ V ∧ V.heap[w2.heap.size]? = some (.cells (Rg.cs ⟨x0, x1, x2, u⟩) 38 (0, 0))) ⟨HW.out.keep (bnew HB2.out _), heap_alloc_new _ _⟩ ?_
      intro V hV
      have HV := hid hV
      clear hV HI HJ HB2 c0 c1 c2 c3 HW lt HL1
      have c0 := cell_of_blk HV.out.1.regs 0
      have c1 := cell_of_blk HV.out.1.regs 1
      have c2 := cell_of_blk HV.out.1.regs 2
      have c3 := cell_of_blk HV.out.1.regs 3
      simp only [Rg.cs, List.getElem?_toArray, List.getElem?_cons_zero, List.getElem?_cons_succ] at c0 c1 c2 c3
      have lt := lt_of_block HV.out.1.regs
      have HI := hid ((InsRow.lit [⟨6, 3, 1, 0, 0⟩] 1 V 24 #[.int .i64 6, .int .i64 3, .int .i64 1, .int .i64 0, .int .i64 0] rfl rfl).below (bnew (bid _) (.cells #[.int .i64 (-1)] 3)))
      have HJ := hid (IntRow.lit [-1] 3 (V.alloc (.cells #[.int .i64 6, .int .i64 3, .int .i64 1, .int .i64 0, .int .i64 0] 24)) #[.int .i64 (-1)] rfl 1 rfl)
      rw [size_alloc1] at HJ
      go_upto_region 12 with (go_at_call 18; go_must ((with_reducible refine (Next_any _ _ _ _ _ _ _ [⟨6, 3, 1, 0, 0⟩] [-1] ⟨x0, x1, x2, x3⟩ _ HI.out HJ.out H1.out).mono ?_); rintro e w3 hm; rw [HL2.out] at hm; obtain ⟨rfl, hb3⟩ := hm; have HB3 := hid (bthen (bnew (bnew (bid V) _) _) hb3); clear hb3))
      refine wp_rename (fun U => SumAt w ⟨x0, x1, x2, x3⟩ ⟨0, 0, 0, 1⟩ U ∧ U.heap[w2.heap.size]? = some (.cells (Rg.cs ⟨x0, x1, x2, u⟩) 38 (0, 0)) ∧ U.heap[w3.heap.size]? = some (.cells (Rg.cs ⟨x0, x1, x2, v⟩) 38 (0, 0))) ⟨HV.out.1.keep (bnew HB3.out _), ((bnew HB3.out _).block _ (lt_of_block HV.out.2)).trans HV.out.2, heap_alloc_new _ _⟩ ?_
      intro U hU
      have HU := hid hU
      clear hU HI HJ HB3 c0 c1 c2 c3 HV lt HL2
      go_upto_region 99 with (go_at_call 10; refine (told_any _).mono ?_; rintro e w4 ⟨rfl, hb4⟩; have HZ := hid (And.intro (HU.out.1.keep hb4) (And.intro ((hb4.block _ (lt_of_block HU.out.2.1)).trans HU.out.2.1) ((hb4.block _ (lt_of_block HU.out.2.2)).trans HU.out.2.2))); clear hb4; have c0 := cell_of_blk HZ.out.1.regs 0; have c1 := cell_of_blk HZ.out.1.regs 1; have d0 := cell_of_blk HZ.out.1.box 0; have d1 := cell_of_blk HZ.out.1.box 1; have d2 := cell_of_blk HZ.out.1.box 2; have d3 := cell_of_blk HZ.out.1.box 3; have e0 := cell_of_blk HZ.out.2.1 0; have e3 := cell_of_blk HZ.out.2.1 3; have g3 := cell_of_blk HZ.out.2.2 3; simp only [Rg.cs, List.getElem?_toArray, List.getElem?_cons_zero, List.getElem?_cons_succ] at c0 c1 d0 d1 d2 d3 e0 e3 g3; obtain ⟨rfl, rfl, hlt⟩ | ⟨rfl, rfl | rfl, hlt⟩ := HUV.out)
      all_goals
        go_ret
        exact ⟨rfl, HZ.out.1.below⟩

theorem wrap_of_wf {n : Int} (h : (Lit.int .i64 n).wf = true) : wrap64 n = n := by
  obtain ⟨h1, h2⟩ := bounds_i64 h
  exact IntWalk.wrap64_in _ ⟨h1, h2⟩

end Go.Proofs.Ytjnpfjalgjecnaa
