/-
  eval.Next, at a sum; eval.Next whole.
-/
import Derived.Test.YthhgeanmlpmokaaNext5
namespace Go.Proofs.Ythhgeanmlpmokaa
open Go.RowKit
set_option linter.unusedVariables false
attribute [local go_sem] Later.cell Later.frozen

set_option maxRecDepth 100000 in
set_option maxHeartbeats 4000000 in
theorem Next_sum (a a' : Option Addr) (n c m c' k : Nat) (ps : List Ins) (ms : List Int) (i : Ins) (r : Rg) (w : World) (hr : InsRow w a n ps) (hn : n ≤ 100000) (hk : k < n) (hi : ps[k]? = some i) (h1 : localB i.op = true) (h2 : mayB i = true) (ho : 1 ≤ i.op ∧ i.op ≤ 7) :
    Calls Try.prog 6 #[.slice a n c, .slice a' m c', .int .i64 (k : Int), r.v] w (NextRet ((k : Int) + 1, r.put i.a (valueF i r), true) w) := by
  obtain ⟨⟨a0, a1⟩, HBB, HCC⟩ := sum_regs h2 ho
  have VA := hid (fun W => value_any i r W HBB HCC (by omega))
  generalize hV : valueF i r = v at VA ⊢
  clear hV HBB HCC
  obtain ⟨q, hq⟩ : ∃ q, r.put i.a v = q := ⟨_, rfl⟩
  have HQ := hid hq
  rw [hq]
  clear hq
  obtain ⟨q0, q1, q2, q3⟩ := q
  obtain ⟨b, off, rfl, hb, hps⟩ := hr.at (by omega)
  have HX := hid (NxAt.new w r)
  obtain ⟨x0, x1, x2, x3⟩ := r
  obtain ⟨op, ia, ib, ic, iN⟩ := i
  have hAt := hps k _ hi
  have HPS := hid hAt
  have HB := hid hb
  have hA := amongB_yes (n := (k : Int)) (m := (n : Int)) (by omega) (by omega)
  have i1 : (0 : Int) ≤ (k : Int) := by omega
  have i2 : (k : Int) < (n : Int) := by omega
  clear hps hAt hb hr
  dsimp only at h1 h2 ho VA a0 a1
  have t18 : (op == 18) = false := by simp; omega
  have t19 : (op == 19) = false := by simp; omega
  have t20 : (op == 20) = false := by simp; omega
  have t21 : (op == 21) = false := by simp; omega
  have t22 : (op == 22) = false := by simp; omega
  have AH := hid (And.intro a0 a1)
  clear ho
  show Calls _ _ #[_, _, _, .agg #[.int .i64 x0, .int .i64 x1, .int .i64 x2, .int .i64 x3]] _ _
  go_enter Try.func6, Try.ntmps6
  go_upto_region 1 with fail
  refine wp_rename (fun W => NxAt w ⟨x0, x1, x2, x3⟩ W) HX.out ?_
  intro W hW
  have HW := hid hW
  clear hW HX
  have hq := HPS.out.keep (HW.out.below.block b HB.out)
  obtain ⟨p0, p1, p2, p3, p4⟩ := hq
  dsimp only at p0 p1 p2 p3 p4
  go_upto_region 3 with (first | (go_at_call 9; refine (among_any _ _ _).mono ?_; rintro e w' ⟨rfl, rfl⟩) | (go_at_call 10; refine (Local_any _ _).mono ?_; rintro e w' ⟨rfl, rfl⟩) | (go_at_call 11; refine (May_any ⟨op, ia, ib, ic, iN⟩ _).mono ?_; rintro e w1 ⟨rfl, hb1⟩; have HB1 := hid hb1; clear hb1))
  refine wp_rename (fun V => NxAt w ⟨x0, x1, x2, x3⟩ V) (HW.out.keep HB1.out) ?_
  intro V hV
  have HV := hid hV
  clear hV p0 p1 p2 p3 p4
  have hq := HPS.out.keep (HV.out.below.block b HB.out)
  obtain ⟨p0, p1, p2, p3, p4⟩ := hq
  dsimp only at p0 p1 p2 p3 p4
  go_upto_region 4 with fail
  refine wp_rename (fun U => NxMid w ⟨x0, x1, x2, x3⟩ ⟨op, ia, ib, ic, iN⟩ V.heap.size U) (HV.out.boxed _) ?_
  intro U hU
  have HU := hid hU
  clear hU p0 p1 p2 p3 p4
  have g0 := cell_of_blk HU.out.box 0
  have g1 := cell_of_blk HU.out.box 1
  have g2 := cell_of_blk HU.out.box 2
  have g3 := cell_of_blk HU.out.box 3
  have g4 := cell_of_blk HU.out.box 4
  simp only [Ins.cs, List.getElem?_toArray, List.getElem?_cons_zero, List.getElem?_cons_succ] at g0 g1 g2 g3 g4
  have lt1 := lt_of_block HU.out.box
  have lt2 := lt_of_block HU.out.at_.regs
  go_upto_region 5 with fail
  clear t18 t19 t20 t21 t22
  have ca := Rg.cell HU.out.at_.regs AH.out.1 AH.out.2
  have fa := frozen_of_blk HU.out.at_.regs ia.toNat
  have d0 := cell_of_blk HU.out.at_.regs 0
  have d1 := cell_of_blk HU.out.at_.regs 1
  have d2 := cell_of_blk HU.out.at_.regs 2
  have d3 := cell_of_blk HU.out.at_.regs 3
  simp only [Rg.cs, List.getElem?_toArray, List.getElem?_cons_zero, List.getElem?_cons_succ] at d0 d1 d2 d3
  refine wp_region_later_tail 6 (by kernel_rfl) (by kernel_rfl) ?_
  simp only [List.take_succ_cons, List.take_zero, List.drop_succ_cons, List.drop_zero]
  repeat (go_big_quiet_step ((go_at_call 13; with_reducible exact later_call (VA.out _))))
  refine wpQuiet_nil ?_
  rintro _ ⟨x, rfl⟩
  have HZ := hid ((HU.out.at_.keep x.below).put AH.out.1 AH.out.2 v)
  go_upto_region 14 with fail
  refine wp_rename (fun Z => NxAt w ⟨q0, q1, q2, q3⟩ Z) (by rw [← HQ.out]; exact HZ.out) ?_
  intro Z hZ
  have HZZ := hid hZ
  clear hZ HZ d0 d1 d2 d3 g0 g1 g2 g3 g4 ca fa
  have d0 := cell_of_blk HZZ.out.regs 0
  have d1 := cell_of_blk HZZ.out.regs 1
  have d2 := cell_of_blk HZZ.out.regs 2
  have d3 := cell_of_blk HZZ.out.regs 3
  simp only [Rg.cs, List.getElem?_toArray, List.getElem?_cons_zero, List.getElem?_cons_succ] at d0 d1 d2 d3
  have e0 := cell_of_blk HZZ.out.res 0
  have e1 := cell_of_blk HZZ.out.res 1
  have e2 := cell_of_blk HZZ.out.res 2
  have e3 := cell_of_blk HZZ.out.res 3
  simp only [zero4, List.getElem?_toArray, List.getElem?_cons_zero, List.getElem?_cons_succ] at e0 e1 e2 e3
  have f0 := frozen_of_blk HZZ.out.res 0
  have f1 := frozen_of_blk HZZ.out.res 1
  have f2 := frozen_of_blk HZZ.out.res 2
  have f3 := frozen_of_blk HZZ.out.res 3
  go_region
  go_wp2
  exact bodyPost_ret (v := .tuple #[.int .i64 (k + 1), .agg #[.int .i64 q0, .int .i64 q1, .int .i64 q2, .int .i64 q3], .bool true]) (by simp [results, Try.results6, go_sem, e0, e1, e2, e3]) rfl ⟨rfl, HZZ.out.fin _ _ _ _⟩

/-- eval.Next: any program, any mates, any place, any registers. -/
theorem Next_any (a a' : Option Addr) (n c m c' : Nat) (at_ : Int) (ps : List Ins) (ms : List Int) (r : Rg) (w : World) (hr : InsRow w a n ps) (hm : IntRow w a' m ms) (hn : n ≤ 100000) :
    Calls Try.prog 6 #[.slice a n c, .slice a' m c', .int .i64 at_, r.v] w (NextRet (nextF ps ms at_ r) w) := by
  cases hA : amongB at_ n with
  | false =>
    rw [nextF_out (by rw [hr.cnt]; exact hA)]
    exact Next_out a a' n c m c' at_ r w hA
  | true =>
    obtain ⟨a0, a1⟩ := amongB_iff.1 hA
    obtain ⟨k, rfl⟩ : ∃ k : Nat, at_ = (k : Int) := ⟨at_.toNat, by omega⟩
    have hk : k < n := by omega
    obtain ⟨i, hi⟩ : ∃ i, ps[k]? = some i := ⟨_, List.getElem?_eq_getElem (by rw [hr.cnt]; exact hk)⟩
    have e0 : nextF ps ms k r = if (localB i.op && mayB i) = true then stepF i n ms k r else ((k : Int), r, false) := by
      unfold nextF
      rw [hr.cnt, if_pos hA, Int.toNat_natCast, hi]
    rw [e0]
    cases h1 : localB i.op with
    | false =>
      rw [if_neg (by simp)]
      exact Next_not a a' n c m c' k ps ms i r w hr hn hk hi (.inl h1)
    | true =>
      cases h2 : mayB i with
      | false =>
        rw [if_neg (by simp)]
        exact Next_not a a' n c m c' k ps ms i r w hr hn hk hi (.inr ⟨h1, h2⟩)
      | true =>
        rw [if_pos (by rfl)]
        unfold stepF
        rw [hm.1, Int.toNat_natCast]
        cases h3 : jumpB i.op with
        | true =>
          rw [if_pos rfl]
          cases h4 : amongB (k : Int) m with
          | false =>
            rw [if_neg (by simp)]
            exact Next_lost a a' n c m c' k ps ms i r w hr hn hk hi hm h1 h2 h3 (.inl h4)
          | true =>
            cases h5 : amongB (ms.getD k 0) n with
            | false =>
              rw [if_neg (by simp)]
              exact Next_lost a a' n c m c' k ps ms i r w hr hn hk hi hm h1 h2 h3 (.inr ⟨h4, h5⟩)
            | true =>
              rw [if_pos (by rfl)]
              exact Next_jump a a' n c m c' k ps ms i r w hr hn hk hi hm h1 h2 h3 h4 h5
        | false =>
          rw [if_neg (by simp)]
          have g1 := of_decide_eq_false h3
          have g2 := of_decide_eq_true h1
          by_cases h4 : i.op = 20
          · rw [if_pos h4]
            exact Next_end a a' n c m c' k ps ms i r w hr hn hk hi h1 h2 h4
          · rw [if_neg h4]
            exact Next_sum a a' n c m c' k ps ms i r w hr hn hk hi h1 h2 (by omega)

end Go.Proofs.Ythhgeanmlpmokaa
