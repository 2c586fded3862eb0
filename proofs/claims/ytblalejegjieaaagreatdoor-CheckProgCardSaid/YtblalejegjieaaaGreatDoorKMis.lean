/-
  Package check: why an instruction can't be where it stands.
-/
import Derived.Test.YtblalejegjieaaaGreatDoorKFun
namespace Go.Proofs.YtblalejegjieaaaGreatDoor
open Go.RowKit
set_option linter.unusedVariables false

@[reducible] def Std.v (d : Std) (a : Option Addr) (cc : Nat) : Value := .agg #[.slice a d.op.length cc, .int .i64 d.hi, .bool d.lp]

/-- The three things that are looked at, each in its block. -/
structure MisSt (w : World) (c : Cfg) (s : CV) (x : Ins) (d : Std) (a : Option Addr) (cc : Nat) (W : World) : Prop where
  cfg : CfgBox W w.heap.size c s
  ins : W.heap[w.heap.size + 1]? = some (.cells #[.int .i64 x.op, .int .i64 x.a, .int .i64 x.b, .int .i64 x.c, .int .i64 x.n] 40 (0, 0))
  std : W.heap[w.heap.size + 1 + 1]? = some (.cells #[.slice a d.op.length cc, .int .i64 d.hi, .bool d.lp] 107 (0, 0))
  below : Below w.heap.size w W
theorem MisSt.later {w W W' : World} {c : Cfg} {s : CV} {x : Ins} {d : Std} {a : Option Addr} {cc : Nat} (h : MisSt w c s x d a cc W) (hb : Below W.heap.size W W') : MisSt w c s x d a cc W' :=
  ⟨h.cfg.below hb, (hb.block _ (lt_of_block h.ins)).trans h.ins, (hb.block _ (lt_of_block h.std)).trans h.std, bthen h.below hb⟩
theorem MisSt.new (w : World) (c : Cfg) (s : CV) (x : Ins) (d : Std) (a : Option Addr) (cc : Nat) :
    MisSt w c s x d a cc (((w.alloc (.cells (c.cs s) 34)).alloc (.cells #[.int .i64 x.op, .int .i64 x.a, .int .i64 x.b, .int .i64 x.c, .int .i64 x.n] 40)).alloc (.cells #[.slice a d.op.length cc, .int .i64 d.hi, .bool d.lp] 107)) := by
  refine ⟨(CfgBox.new w c s).below (bnew (bnew (bid _) _) _), ?_, ?_, bnew (bnew (bnew (bid w) _) _) _⟩
  · rw [Below.heap_alloc _ _ _ (by simp)]
    have := heap_alloc_new (w.alloc (.cells (c.cs s) 34)) (.cells #[.int .i64 x.op, .int .i64 x.a, .int .i64 x.b, .int .i64 x.c, .int .i64 x.n] 40)
    rw [size_alloc1] at this
    exact this
  · have := heap_alloc_new ((w.alloc (.cells (c.cs s) 34)).alloc (.cells #[.int .i64 x.op, .int .i64 x.a, .int .i64 x.b, .int .i64 x.c, .int .i64 x.n] 40)) (.cells #[.slice a d.op.length cc, .int .i64 d.hi, .bool d.lp] 107)
    rw [size_alloc2] at this
    exact this
theorem MisSt.facts {w W : World} {c : Cfg} {s : CV} {x : Ins} {d : Std} {a : Option Addr} {cc : Nat} (h : MisSt w c s x d a cc W) :
    (W.cell? ⟨w.heap.size + 1, 0, none⟩ = some (.int .i64 x.op) ∧ W.cell? ⟨w.heap.size + 1, 1, none⟩ = some (.int .i64 x.a) ∧ W.cell? ⟨w.heap.size + 1, 2, none⟩ = some (.int .i64 x.b) ∧ W.cell? ⟨w.heap.size + 1, 3, none⟩ = some (.int .i64 x.c) ∧ W.cell? ⟨w.heap.size + 1, 4, none⟩ = some (.int .i64 x.n)) ∧
    (W.cell? ⟨w.heap.size + 1 + 1, 0, none⟩ = some (.slice a d.op.length cc) ∧ W.cell? ⟨w.heap.size + 1 + 1, 1, none⟩ = some (.int .i64 d.hi) ∧ W.cell? ⟨w.heap.size + 1 + 1, 2, none⟩ = some (.bool d.lp)) ∧
    (W.cell? ⟨w.heap.size, 9, none⟩ = some (.slice s.al s.nl s.kl) ∧ W.cell? ⟨w.heap.size, 10, none⟩ = some (.slice s.ac s.nc s.kc)) :=
  ⟨⟨cell_of_blk h.ins 0, cell_of_blk h.ins 1, cell_of_blk h.ins 2, cell_of_blk h.ins 3, cell_of_blk h.ins 4⟩, ⟨cell_of_blk h.std 0, cell_of_blk h.std 1, cell_of_blk h.std 2⟩, ⟨cell_of_blk h.cfg 9, cell_of_blk h.cfg 10⟩⟩

theorem enterF_1 {c : Cfg} {s : CV} {x : Ins} {d : Std} (h1 : (s.nl : Int) ≤ x.a) : enterF c s x d = 6 := by unfold enterF; rw [if_pos h1]
theorem enterF_2 {c : Cfg} {s : CV} {x : Ins} {d : Std} (h1 : ¬ (s.nl : Int) ≤ x.a) (h2 : x.b = 1 ∧ (c.locks.getD x.a.toNat lk0).kind ≠ 3) : enterF c s x d = 7 := by unfold enterF; rw [if_neg h1, if_pos h2]
theorem enterF_3 {c : Cfg} {s : CV} {x : Ins} {d : Std} (h1 : ¬ (s.nl : Int) ≤ x.a) (h2 : ¬ (x.b = 1 ∧ (c.locks.getD x.a.toNat lk0).kind ≠ 3)) (h3 : d.op.length = 0) : enterF c s x d = 0 := by unfold enterF; rw [if_neg h1, if_neg h2, if_pos h3]
theorem enterF_4 {c : Cfg} {s : CV} {x : Ins} {d : Std} (h1 : ¬ (s.nl : Int) ≤ x.a) (h2 : ¬ (x.b = 1 ∧ (c.locks.getD x.a.toNat lk0).kind ≠ 3)) (h3 : ¬ d.op.length = 0) (h4 : 3 ≤ d.op.length) : enterF c s x d = 5 := by unfold enterF; rw [if_neg h1, if_neg h2, if_neg h3, if_pos h4]
theorem enterF_5 {c : Cfg} {s : CV} {x : Ins} {d : Std} (h1 : ¬ (s.nl : Int) ≤ x.a) (h2 : ¬ (x.b = 1 ∧ (c.locks.getD x.a.toNat lk0).kind ≠ 3)) (h3 : ¬ d.op.length = 0) (h4 : ¬ 3 ≤ d.op.length) (h5 : d.lp = true ∨ x.a ≤ d.hi) : enterF c s x d = 8 := by unfold enterF; rw [if_neg h1, if_neg h2, if_neg h3, if_neg h4, if_pos h5]
theorem enterF_6 {c : Cfg} {s : CV} {x : Ins} {d : Std} (h1 : ¬ (s.nl : Int) ≤ x.a) (h2 : ¬ (x.b = 1 ∧ (c.locks.getD x.a.toNat lk0).kind ≠ 3)) (h3 : ¬ d.op.length = 0) (h4 : ¬ 3 ≤ d.op.length) (h5 : ¬ (d.lp = true ∨ x.a ≤ d.hi)) : enterF c s x d = 0 := by unfold enterF; rw [if_neg h1, if_neg h2, if_neg h3, if_neg h4, if_neg h5]

/-- A code, and nothing old turned. -/
def CodeRet (n : Nat) (w : World) (e : Ending) (w' : World) : Prop := e = .returned (.int .i64 (n : Int)) ∧ Below w.heap.size w w'
theorem CodeRet.mk' {n m : Nat} {w w' : World} (h : n = m) (hb : Below w.heap.size w w') : CodeRet n w (.returned (.int .i64 (m : Int))) w' := ⟨by rw [h], hb⟩

set_option maxRecDepth 100000 in
set_option maxHeartbeats 4000000 in
theorem enter_any (c : Cfg) (s : CV) (x : Ins) (d : Std) (sa : Option Addr) (sc : Nat) (w : World) (hc : CfgIn w c s) (ha : 0 ≤ x.a) (hd : d.op.length ≤ 100000) :
    Calls Tryz.prog 75 #[c.v s, x.v, d.v sa sc] w (CodeRet (enterF c s x d) w) := by
  have HS := hid (MisSt.new w c s x d sa sc)
  have HX := hid (reads_any x)
  go_enter Tryz.func75, Tryz.ntmps75
  go_upto_region 1 with fail
  refine wp_rename (fun W => MisSt w c s x d sa sc W) HS.out ?_
  intro W hW
  have HW := hid hW
  clear hW HS
  have hf := hc.fl
  have HL := hid hc.locks
  clear hc
  obtain ⟨op, a, b, ic, n⟩ := x
  have HR : Hid (readsB ⟨op, a, b, ic, n⟩ = (b == 1)) := hid rfl
  generalize readsB ⟨op, a, b, ic, n⟩ = rd at HR HX
  obtain ⟨ops, hi, lp⟩ := d
  dsimp only at hd ha
  obtain ⟨⟨c0, c1, c2, c3, c4⟩, ⟨s0, s1, s2⟩, ⟨k9, k10⟩⟩ := HW.out.facts
  dsimp only at c0 c1 c2 c3 c4 s0 s1 s2 k9 k10
  clear k10
  by_cases h1 : (s.nl : Int) ≤ a
  · have HV := hid (enterF_1 (c := c) (x := ⟨op, a, b, ic, n⟩) (d := ⟨ops, hi, lp⟩) h1)
    go_wp2
    go_ret
    exact CodeRet.mk' HV.out HW.out.below
  · have h1' : a < (s.nl : Int) := by omega
    obtain ⟨lb, off, ha2, hbl, hcell⟩ := HL.out.at (by omega)
    have hla : a.toNat < c.locks.length := by rw [HL.out.cnt]; omega
    have hk := ((hcell a.toNat _ (List.getElem?_eq_getElem hla)).keep (HW.out.below.block lb hbl)).c0
    have HK : Hid ((c.locks.getD a.toNat lk0).kind = c.locks[a.toNat].kind) := hid (by simp [List.getD, hla])
    rw [ha2] at k9
    generalize c.locks[a.toNat].kind = kd at hk HK
    clear hcell ha2
    by_cases hrd : rd = true ∧ kd ≠ 3
    · obtain ⟨h2, h3⟩ := hrd
      subst h2
      have HV := hid (enterF_2 (c := c) (s := s) (x := ⟨op, a, b, ic, n⟩) (d := ⟨ops, hi, lp⟩) h1 ⟨eq_of_beq HR.out.symm, by rw [HK.out]; exact h3⟩)
      go_wp2_with (go_at_call 82; refine (HX.out _).mono ?_; rintro e w1 ⟨rfl, hb1⟩; have HB1 := hid hb1; have q9 := (hb1.cell (p := ⟨w.heap.size, 9, none⟩) (lt_of_block HW.out.cfg)).trans k9; have q1 := (hb1.cell (p := ⟨w.heap.size + 1, 1, none⟩) (lt_of_block HW.out.ins)).trans c1; have qk := (hb1.cell (World.block_lt_of_cell? _ _ hk)).trans hk; have p0 := (hb1.cell (p := ⟨w.heap.size + 1 + 1, 0, none⟩) (lt_of_block HW.out.std)).trans s0; have p1 := (hb1.cell (p := ⟨w.heap.size + 1 + 1, 1, none⟩) (lt_of_block HW.out.std)).trans s1; have p2 := (hb1.cell (p := ⟨w.heap.size + 1 + 1, 2, none⟩) (lt_of_block HW.out.std)).trans s2; clear hb1)
      go_ret
      exact CodeRet.mk' HV.out (bthen HW.out.below HB1.out)
    · have h2 : ¬ (b = 1 ∧ (c.locks.getD a.toNat lk0).kind ≠ 3) := by
        rw [HK.out]
        intro h
        exact hrd ⟨by rw [HR.out]; simp [h.1], h.2⟩
      have H2 := hid h2
      clear h2
      have hch : rd = false ∨ (rd = true ∧ kd = 3) := by
        cases rd
        · exact .inl rfl
        · exact .inr ⟨rfl, Decidable.byContradiction fun h => hrd ⟨rfl, h⟩⟩
      clear hrd
      have hln : (0 : Int) ≤ (ops.length : Int) := by omega
      by_cases h3 : ops.length = 0
      · have HV := hid (enterF_3 (c := c) (s := s) (x := ⟨op, a, b, ic, n⟩) (d := ⟨ops, hi, lp⟩) h1 H2.out h3)
        rw [h3] at s0
        clear h3 hln
        rcases hch with rfl | ⟨rfl, rfl⟩
        all_goals
          go_wp2_with (go_at_call 82; refine (HX.out _).mono ?_; rintro e w1 ⟨rfl, hb1⟩; have HB1 := hid hb1; have q9 := (hb1.cell (p := ⟨w.heap.size, 9, none⟩) (lt_of_block HW.out.cfg)).trans k9; have q1 := (hb1.cell (p := ⟨w.heap.size + 1, 1, none⟩) (lt_of_block HW.out.ins)).trans c1; have qk := (hb1.cell (World.block_lt_of_cell? _ _ hk)).trans hk; have p0 := (hb1.cell (p := ⟨w.heap.size + 1 + 1, 0, none⟩) (lt_of_block HW.out.std)).trans s0; have p1 := (hb1.cell (p := ⟨w.heap.size + 1 + 1, 1, none⟩) (lt_of_block HW.out.std)).trans s1; have p2 := (hb1.cell (p := ⟨w.heap.size + 1 + 1, 2, none⟩) (lt_of_block HW.out.std)).trans s2; clear hb1)
          go_ret
          exact CodeRet.mk' HV.out (bthen HW.out.below HB1.out)
      · have e3 : ¬ (ops.length : Int) = 0 := by omega
        by_cases h4 : 3 ≤ ops.length
        · have HV := hid (enterF_4 (c := c) (s := s) (x := ⟨op, a, b, ic, n⟩) (d := ⟨ops, hi, lp⟩) h1 H2.out h3 h4)
          have e4 : (3 : Int) ≤ (ops.length : Int) := by omega
          rcases hch with rfl | ⟨rfl, rfl⟩
          all_goals
            go_wp2_with (go_at_call 82; refine (HX.out _).mono ?_; rintro e w1 ⟨rfl, hb1⟩; have HB1 := hid hb1; have q9 := (hb1.cell (p := ⟨w.heap.size, 9, none⟩) (lt_of_block HW.out.cfg)).trans k9; have q1 := (hb1.cell (p := ⟨w.heap.size + 1, 1, none⟩) (lt_of_block HW.out.ins)).trans c1; have qk := (hb1.cell (World.block_lt_of_cell? _ _ hk)).trans hk; have p0 := (hb1.cell (p := ⟨w.heap.size + 1 + 1, 0, none⟩) (lt_of_block HW.out.std)).trans s0; have p1 := (hb1.cell (p := ⟨w.heap.size + 1 + 1, 1, none⟩) (lt_of_block HW.out.std)).trans s1; have p2 := (hb1.cell (p := ⟨w.heap.size + 1 + 1, 2, none⟩) (lt_of_block HW.out.std)).trans s2; clear hb1)
            go_ret
            exact CodeRet.mk' HV.out (bthen HW.out.below HB1.out)
        · have e4 : ¬ (3 : Int) ≤ (ops.length : Int) := by omega
          by_cases h5 : lp = true ∨ a ≤ hi
          · have HV := hid (enterF_5 (c := c) (s := s) (x := ⟨op, a, b, ic, n⟩) (d := ⟨ops, hi, lp⟩) h1 H2.out h3 h4 h5)
            have h6 : lp = true ∨ (lp = false ∧ a ≤ hi) := by
              cases lp
              · exact .inr ⟨rfl, h5.resolve_left (by simp)⟩
              · exact .inl rfl
            clear h5
            rcases h6 with rfl | ⟨rfl, h6⟩
            all_goals
              rcases hch with rfl | ⟨rfl, rfl⟩
              all_goals
                go_wp2_with (go_at_call 82; refine (HX.out _).mono ?_; rintro e w1 ⟨rfl, hb1⟩; have HB1 := hid hb1; have q9 := (hb1.cell (p := ⟨w.heap.size, 9, none⟩) (lt_of_block HW.out.cfg)).trans k9; have q1 := (hb1.cell (p := ⟨w.heap.size + 1, 1, none⟩) (lt_of_block HW.out.ins)).trans c1; have qk := (hb1.cell (World.block_lt_of_cell? _ _ hk)).trans hk; have p0 := (hb1.cell (p := ⟨w.heap.size + 1 + 1, 0, none⟩) (lt_of_block HW.out.std)).trans s0; have p1 := (hb1.cell (p := ⟨w.heap.size + 1 + 1, 1, none⟩) (lt_of_block HW.out.std)).trans s1; have p2 := (hb1.cell (p := ⟨w.heap.size + 1 + 1, 2, none⟩) (lt_of_block HW.out.std)).trans s2; clear hb1)
                go_ret
                exact CodeRet.mk' HV.out (bthen HW.out.below HB1.out)
          · have HV := hid (enterF_6 (c := c) (s := s) (x := ⟨op, a, b, ic, n⟩) (d := ⟨ops, hi, lp⟩) h1 H2.out h3 h4 h5)
            have h6 : lp = false := by cases lp; rfl; exact absurd (.inl rfl) h5
            subst h6
            have h7 : ¬ a ≤ hi := fun h => h5 (.inr h)
            clear h5
            rcases hch with rfl | ⟨rfl, rfl⟩
            all_goals
              go_wp2_with (go_at_call 82; refine (HX.out _).mono ?_; rintro e w1 ⟨rfl, hb1⟩; have HB1 := hid hb1; have q9 := (hb1.cell (p := ⟨w.heap.size, 9, none⟩) (lt_of_block HW.out.cfg)).trans k9; have q1 := (hb1.cell (p := ⟨w.heap.size + 1, 1, none⟩) (lt_of_block HW.out.ins)).trans c1; have qk := (hb1.cell (World.block_lt_of_cell? _ _ hk)).trans hk; have p0 := (hb1.cell (p := ⟨w.heap.size + 1 + 1, 0, none⟩) (lt_of_block HW.out.std)).trans s0; have p1 := (hb1.cell (p := ⟨w.heap.size + 1 + 1, 1, none⟩) (lt_of_block HW.out.std)).trans s1; have p2 := (hb1.cell (p := ⟨w.heap.size + 1 + 1, 2, none⟩) (lt_of_block HW.out.std)).trans s2; clear hb1)
              go_ret
              exact CodeRet.mk' HV.out (bthen HW.out.below HB1.out)

theorem storeF_1 {d : Std} (h : d.op.length = 0) : storeF d = 0 := by unfold storeF; rw [if_pos h]
theorem storeF_2 {d : Std} (h : ¬ d.op.length = 0) (h2 : d.op.any (fun x => !readsB x) = true) : storeF d = 0 := by unfold storeF; rw [if_neg h, if_pos h2]
theorem storeF_3 {d : Std} (h : ¬ d.op.length = 0) (h2 : d.op.any (fun x => !readsB x) = false) : storeF d = 7 := by unfold storeF; rw [if_neg h, if_neg (by simp [h2])]

set_option maxRecDepth 100000 in
set_option maxHeartbeats 4000000 in
theorem store_any (d : Std) (sa : Option Addr) (sc : Nat) (w : World) (hr : InsRow w sa d.op.length d.op) (hd : d.op.length ≤ 100000) :
    Calls Tryz.prog 76 #[d.v sa sc] w (CodeRet (storeF d) w) := by
  have HC := hid (fun (W : World) (hb : Below w.heap.size w W) => ContainsFunc_any (fun x => !readsB x) sa d.op.length sc d.op W (hr.below hb) hd 84 #[] (fun _ _ => by simp [go_sem]) (fun x _ W2 _ => writes_any x W2))
  clear hr
  obtain ⟨ops, hi, lp⟩ := d
  dsimp only at HC hd
  by_cases h1 : ops.length = 0
  · have HV := hid (storeF_1 (d := ⟨ops, hi, lp⟩) h1)
    show Calls _ _ #[.agg #[.slice sa ops.length sc, .int .i64 hi, .bool lp]] _ _
    rw [h1]
    clear h1 hd HC
    go_enter Tryz.func76, Tryz.ntmps76
    go_wp2
    go_ret
    exact CodeRet.mk' HV.out (bnew (bid w) _)
  · have e1 : (0 : Int) < (ops.length : Int) := by omega
    have e2 : 0 < ops.length := by omega
    cases h2 : ops.any (fun x => !readsB x)
    · have HV := hid (storeF_3 (d := ⟨ops, hi, lp⟩) h1 h2)
      rw [h2] at HC
      clear h2 h1
      show Calls _ _ #[.agg #[.slice sa ops.length sc, .int .i64 hi, .bool lp]] _ _
      go_enter Tryz.func76, Tryz.ntmps76
      go_wp2_with (go_at_call 83; refine (HC.out _ (bnew (bid w) _)).mono ?_; rintro e w1 ⟨rfl, hb1⟩; have HB1 := hid hb1; clear hb1)
      go_ret
      exact CodeRet.mk' HV.out (bthen (bnew (bid w) _) HB1.out)
    · have HV := hid (storeF_2 (d := ⟨ops, hi, lp⟩) h1 h2)
      rw [h2] at HC
      clear h2 h1
      show Calls _ _ #[.agg #[.slice sa ops.length sc, .int .i64 hi, .bool lp]] _ _
      go_enter Tryz.func76, Tryz.ntmps76
      go_wp2_with (go_at_call 83; refine (HC.out _ (bnew (bid w) _)).mono ?_; rintro e w1 ⟨rfl, hb1⟩; have HB1 := hid hb1; clear hb1)
      go_ret
      exact CodeRet.mk' HV.out (bthen (bnew (bid w) _) HB1.out)

end Go.Proofs.YtblalejegjieaaaGreatDoor
