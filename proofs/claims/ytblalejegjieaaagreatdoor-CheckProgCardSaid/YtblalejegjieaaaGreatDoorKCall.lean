/-
  Package check: why a condition can't be waited at, or called; why an instruction can't be where it stands.
-/
import Derived.Test.YtblalejegjieaaaGreatDoorKMis
namespace Go.Proofs.YtblalejegjieaaaGreatDoor
open Go.RowKit
set_option linter.unusedVariables false

set_option maxRecDepth 100000 in
set_option maxHeartbeats 4000000 in
theorem callcl_any (c : Cfg) (s : CV) (x : Ins) (e : Ins) (q r : Nat) (W : World) (hq : W.cell? ⟨q, 10, none⟩ = some (.slice s.ac s.nc s.kc)) (hr : W.cell? ⟨r, 1, none⟩ = some (.int .i64 x.a)) (hc : IntRow W s.ac s.nc c.conds) (h0 : 0 ≤ x.a) (h1 : x.a < (s.nc : Int)) (hn : s.nc ≤ 1000000) :
    Calls Tryz.prog 86 #[e.v, .pointer (some ⟨q, 0, none⟩), .pointer (some ⟨r, 0, none⟩)] W fun en w' => en = .returned (.bool (e.a == c.conds.getD x.a.toNat 0)) ∧ Below W.heap.size W w' := by
  obtain ⟨b, off, ha, hb, hcell⟩ := hc.at (by omega)
  have hz := hcell x.a.toNat (by omega)
  rw [ha] at hq
  generalize c.conds.getD x.a.toNat 0 = z at hz
  clear hcell hc ha
  obtain ⟨eop, ea, eb, ec, en⟩ := e
  generalize x.a = xa at hr hz h0 h1
  have lq := World.block_lt_of_cell? _ _ hq
  have lr := World.block_lt_of_cell? _ _ hr
  dsimp only at lq lr
  show Calls _ _ #[.agg #[.int .i64 eop, .int .i64 ea, .int .i64 eb, .int .i64 ec, .int .i64 en], .pointer (some ⟨q, 0, none⟩), .pointer (some ⟨r, 0, none⟩)] _ _
  go_enter Tryz.func86, Tryz.ntmps86
  go_wp2
  go_region
  go_wp2
  go_ret
  exact ⟨rfl, bdrew (bnew (bid W) _)⟩

theorem callF_1 {c : Cfg} {s : CV} {x : Ins} {d : Std} (h1 : (s.nc : Int) ≤ x.a) : callF c s x d = 9 := by unfold callF; rw [if_pos h1]
theorem callF_2 {c : Cfg} {s : CV} {x : Ins} {d : Std} (h1 : ¬ (s.nc : Int) ≤ x.a) (h2 : x.op = 15 ∧ 1 < d.op.length) : callF c s x d = 6 := by unfold callF; rw [if_neg h1, if_pos h2]
theorem callF_3 {c : Cfg} {s : CV} {x : Ins} {d : Std} (h1 : ¬ (s.nc : Int) ≤ x.a) (h2 : ¬ (x.op = 15 ∧ 1 < d.op.length)) (h3 : d.op.find? (fun e => e.a == c.conds.getD x.a.toNat 0) = none) : callF c s x d = 6 := by unfold callF; rw [if_neg h1, if_neg h2, h3]
theorem callF_4 {c : Cfg} {s : CV} {x : Ins} {d : Std} {y : Ins} (h1 : ¬ (s.nc : Int) ≤ x.a) (h2 : ¬ (x.op = 15 ∧ 1 < d.op.length)) (h3 : d.op.find? (fun e => e.a == c.conds.getD x.a.toNat 0) = some y) (h4 : readsB y = true) : callF c s x d = 7 := by unfold callF; rw [if_neg h1, if_neg h2, h3]; simp [h4]
theorem callF_5 {c : Cfg} {s : CV} {x : Ins} {d : Std} {y : Ins} (h1 : ¬ (s.nc : Int) ≤ x.a) (h2 : ¬ (x.op = 15 ∧ 1 < d.op.length)) (h3 : d.op.find? (fun e => e.a == c.conds.getD x.a.toNat 0) = some y) (h4 : readsB y = false) : callF c s x d = 0 := by unfold callF; rw [if_neg h1, if_neg h2, h3]; simp [h4]

set_option maxRecDepth 100000 in
set_option maxHeartbeats 4000000 in
theorem call_any (c : Cfg) (s : CV) (x : Ins) (d : Std) (sa : Option Addr) (sc : Nat) (w : World) (hc : CfgIn w c s) (ha : 0 ≤ x.a) (hr : InsRow w sa d.op.length d.op) (hd : d.op.length ≤ 100000) :
    Calls Tryz.prog 77 #[c.v s, x.v, d.v sa sc] w (CodeRet (callF c s x d) w) := by
  have HS := hid (MisSt.new w c s x d sa sc)
  go_enter Tryz.func77, Tryz.ntmps77
  go_upto_region 1 with fail
  refine wp_rename (fun W => MisSt w c s x d sa sc W) HS.out ?_
  intro W hW
  have HW := hid hW
  clear hW HS
  have hf := hc.fc
  have HL := hid hc.conds
  have HO := hid hr
  clear hc hr
  have HI : Hid (x.a < (s.nc : Int) → Calls Tryz.prog 85 #[.slice sa d.op.length sc, .func (.func 86) #[] #[.pointer (some ⟨w.heap.size, 0, none⟩), .pointer (some ⟨w.heap.size + 1, 0, none⟩)]] W fun e w' => e = .returned (.int .i64 (idxF (fun e => e.a == c.conds.getD x.a.toNat 0) d.op 0)) ∧ Below W.heap.size W w') :=
    hid fun h1 => IndexFunc_any (fun e => e.a == c.conds.getD x.a.toNat 0) sa d.op.length sc d.op W (HO.out.below HW.out.below) hd 86 #[.pointer (some ⟨w.heap.size, 0, none⟩), .pointer (some ⟨w.heap.size + 1, 0, none⟩)] (fun _ _ => by simp [go_sem])
      (fun e _ W2 hb2 => callcl_any c s x e w.heap.size (w.heap.size + 1) W2 ((HW.out.later hb2).facts.2.2.2) ((HW.out.later hb2).facts.1.2.1) ((HL.out.below (bthen HW.out.below hb2))) ha h1 hf)
  have HFD := hid (idxF_find (fun e => e.a == c.conds.getD x.a.toNat 0) d.op 0)
  obtain ⟨op, a, b, ic, n⟩ := x
  obtain ⟨ops, hi, lp⟩ := d
  dsimp only at hd ha HI HFD HO
  obtain ⟨⟨c0, c1, c2, c3, c4⟩, ⟨s0, s1, s2⟩, ⟨k9, k10⟩⟩ := HW.out.facts
  dsimp only at c0 c1 c2 c3 c4 s0 s1 s2 k9 k10
  clear k9
  by_cases h1 : (s.nc : Int) ≤ a
  · have HV := hid (callF_1 (c := c) (x := ⟨op, a, b, ic, n⟩) (d := ⟨ops, hi, lp⟩) h1)
    clear HI HFD
    go_wp2
    go_ret
    exact CodeRet.mk' HV.out HW.out.below
  · have h1' : a < (s.nc : Int) := by omega
    have HI := hid (HI.out h1')
    have l2 : (ops.length : Int) ≤ 100000 := by omega
    by_cases h2 : op = 15 ∧ 1 < ops.length
    · have HV := hid (callF_2 (c := c) (s := s) (x := ⟨op, a, b, ic, n⟩) (d := ⟨ops, hi, lp⟩) h1 h2)
      obtain ⟨rfl, h3⟩ := h2
      have e3 : (1 : Int) < (ops.length : Int) := by omega
      clear HI HFD
      go_wp2
      go_ret
      exact CodeRet.mk' HV.out HW.out.below
    · have H2 := hid h2
      have h3 : (op == 15) = false ∨ (op = 15 ∧ ¬ (1 : Int) < (ops.length : Int)) := by
        by_cases e : op = 15
        · exact .inr ⟨e, fun h => h2 ⟨e, by omega⟩⟩
        · exact .inl (by simpa using e)
      clear h2
      rcases HFD.out with ⟨_, q1, q2⟩ | ⟨j, y, q0, q3, q1, q2⟩
      · have HV := hid (callF_3 (c := c) (s := s) (x := ⟨op, a, b, ic, n⟩) (d := ⟨ops, hi, lp⟩) h1 H2.out q2)
        rw [q1] at HI
        clear q1 q2 HFD
        rcases h3 with h3 | ⟨rfl, h3⟩
        all_goals
          go_wp2_with (go_at_call 85; refine HI.out.mono ?_; rintro e w1 ⟨rfl, hb1⟩; have HB1 := hid hb1; clear hb1)
          go_ret
          exact CodeRet.mk' HV.out (bthen HW.out.below HB1.out)
      · rw [Nat.zero_add] at q1
        rw [q1] at HI
        have hjl : j < ops.length := (List.getElem?_eq_some_iff.1 q0).1
        obtain ⟨ob, off, rfl, hob, hoc⟩ := HO.out.at (show 0 < ops.length by omega)
        have HY := hid ((hoc j y q0).keep (HW.out.below.block ob hob))
        have HLY := hid (Nat.lt_of_lt_of_le hob HW.out.below.size)
        have HX := hid (reads_any y)
        have j0 : (0 : Int) ≤ (j : Int) := by omega
        have j1 : (j : Int) < (ops.length : Int) := by omega
        have HQ := hid q2
        clear q0 q1 q2 q3 hoc HFD hjl
        cases hrd : readsB y
        · have HV := hid (callF_5 (c := c) (s := s) (x := ⟨op, a, b, ic, n⟩) (d := ⟨ops, hi, lp⟩) h1 H2.out HQ.out hrd)
          rw [hrd] at HX
          clear hrd HQ
          obtain ⟨yop, ya, yb, yc, yn⟩ := y
          rcases h3 with h3 | ⟨rfl, h3⟩
          all_goals
            go_wp2_with (first | (go_at_call 85; refine HI.out.mono ?_; rintro e w1 ⟨rfl, hb1⟩; have HB1 := hid hb1; have p0 := (hb1.cell (p := ⟨w.heap.size + 1 + 1, 0, none⟩) (lt_of_block HW.out.std)).trans s0; obtain ⟨y0, y1, y2, y3, y4⟩ := HY.out.keep (hb1.block ob HLY.out); dsimp only at y0 y1 y2 y3 y4; clear hb1) | (go_at_call 82; refine (HX.out _).mono ?_; rintro e w2 ⟨rfl, hb2⟩; have HB2 := hid hb2; clear hb2))
            go_ret
            exact CodeRet.mk' HV.out (bthen (bthen HW.out.below HB1.out) HB2.out)
        · have HV := hid (callF_4 (c := c) (s := s) (x := ⟨op, a, b, ic, n⟩) (d := ⟨ops, hi, lp⟩) h1 H2.out HQ.out hrd)
          rw [hrd] at HX
          clear hrd HQ
          obtain ⟨yop, ya, yb, yc, yn⟩ := y
          rcases h3 with h3 | ⟨rfl, h3⟩
          all_goals
            go_wp2_with (first | (go_at_call 85; refine HI.out.mono ?_; rintro e w1 ⟨rfl, hb1⟩; have HB1 := hid hb1; have p0 := (hb1.cell (p := ⟨w.heap.size + 1 + 1, 0, none⟩) (lt_of_block HW.out.std)).trans s0; obtain ⟨y0, y1, y2, y3, y4⟩ := HY.out.keep (hb1.block ob HLY.out); dsimp only at y0 y1 y2 y3 y4; clear hb1) | (go_at_call 82; refine (HX.out _).mono ?_; rintro e w2 ⟨rfl, hb2⟩; have HB2 := hid hb2; clear hb2))
            go_ret
            exact CodeRet.mk' HV.out (bthen (bthen HW.out.below HB1.out) HB2.out)

theorem misF_13 {c : Cfg} {s : CV} {x : Ins} {d : Std} (h : x.op = 13) : misF c s x d = enterF c s x d := by unfold misF; rw [if_pos h]
theorem misF_1x {c : Cfg} {s : CV} {x : Ins} {d : Std} (h : x.op = 10 ∨ x.op = 11) : misF c s x d = if d.op.length = 0 then 7 else storeF d := by unfold misF; rw [if_neg (by omega), if_pos h]
theorem misF_9 {c : Cfg} {s : CV} {x : Ins} {d : Std} (h : x.op = 9) : misF c s x d = storeF d := by unfold misF; rw [if_neg (by omega), if_neg (by omega), if_pos h]
theorem misF_call {c : Cfg} {s : CV} {x : Ins} {d : Std} (h : x.op = 15 ∨ x.op = 16 ∨ x.op = 17) : misF c s x d = callF c s x d := by unfold misF; rw [if_neg (by omega), if_neg (by omega), if_neg (by omega), if_pos h]
theorem misF_no {c : Cfg} {s : CV} {x : Ins} {d : Std} (h1 : x.op ≠ 13) (h2 : x.op ≠ 10) (h3 : x.op ≠ 11) (h4 : x.op ≠ 9) (h5 : x.op ≠ 15) (h6 : x.op ≠ 16) (h7 : x.op ≠ 17) : misF c s x d = 0 := by unfold misF; rw [if_neg h1, if_neg (by omega), if_neg h4, if_neg (by omega)]

set_option maxRecDepth 100000 in
set_option maxHeartbeats 4000000 in
theorem mis_any (c : Cfg) (s : CV) (x : Ins) (d : Std) (sa : Option Addr) (sc : Nat) (w : World) (hc : CfgIn w c s) (ha : 0 ≤ x.a) (hr : InsRow w sa d.op.length d.op) (hd : d.op.length ≤ 100000) :
    Calls Tryz.prog 60 #[c.v s, x.v, d.v sa sc] w (CodeRet (misF c s x d) w) := by
  have HS := hid (MisSt.new w c s x d sa sc)
  go_enter Tryz.func60, Tryz.ntmps60
  go_upto_region 1 with fail
  refine wp_rename (fun W => MisSt w c s x d sa sc W) HS.out ?_
  intro W hW
  have HW := hid hW
  clear hW HS
  have HE := hid (enter_any c s x d sa sc W (hc.below HW.out.below) ha hd)
  have HC := hid (call_any c s x d sa sc W (hc.below HW.out.below) ha (hr.below HW.out.below) hd)
  have HT := hid (store_any d sa sc W (hr.below HW.out.below) hd)
  clear hc hr
  have M13 := hid (misF_13 (c := c) (s := s) (x := x) (d := d))
  have M1 := hid (misF_1x (c := c) (s := s) (x := x) (d := d))
  have M9 := hid (misF_9 (c := c) (s := s) (x := x) (d := d))
  have MC := hid (misF_call (c := c) (s := s) (x := x) (d := d))
  have MN := hid (misF_no (c := c) (s := s) (x := x) (d := d))
  obtain ⟨k0, k1, k2, k3, k4, k5, k6, k7, k8, k9, k10, k11⟩ := CfgBox.facts (eng := c.eng) (clk := c.clk) (str := c.str) (rds := c.rds) (wrs := c.wrs) (rty := c.rty) (fuel := c.fuel) (most := c.most) (ls := c.locks) (cs := c.conds) (ps := c.progs) (ai := s.ai) (ni := s.ni) (ki := s.ki) (al := s.al) (nl := s.nl) (kl := s.kl) (ac := s.ac) (nc := s.nc) (kc := s.kc) (ap := s.ap) (np := s.np) (kp := s.kp) HW.out.cfg
  obtain ⟨⟨c0, c1, c2, c3, c4⟩, ⟨s0, s1, s2⟩, -⟩ := HW.out.facts
  obtain ⟨op, a, b, ic, n⟩ := x
  dsimp only at c0 c1 c2 c3 c4 ha M13 M1 M9 MC MN
  by_cases q13 : op = 13
  · subst q13
    have HV := hid (M13.out rfl)
    go_wp2_with (go_at_call 75; refine HE.out.mono ?_; rintro e w1 ⟨rfl, hb1⟩; have HB1 := hid hb1; clear hb1)
    go_ret
    exact CodeRet.mk' HV.out (bthen HW.out.below HB1.out)
  by_cases q9 : op = 9
  · subst q9
    have HV := hid (M9.out rfl)
    go_wp2_with (go_at_call 76; refine HT.out.mono ?_; rintro e w1 ⟨rfl, hb1⟩; have HB1 := hid hb1; clear hb1)
    go_ret
    exact CodeRet.mk' HV.out (bthen HW.out.below HB1.out)
  by_cases q1 : op = 10 ∨ op = 11
  · have HV := hid (M1.out q1)
    by_cases h0 : d.op.length = 0
    · have HV2 := hid (HV.out.trans (if_pos h0))
      rw [h0] at s0
      clear HV h0
      rcases q1 with rfl | rfl
      all_goals
        go_wp2
        go_ret
        exact CodeRet.mk' HV2.out HW.out.below
    · have HV2 := hid (HV.out.trans (if_neg h0))
      have e0 : ¬ (d.op.length : Int) = 0 := by omega
      clear HV
      rcases q1 with rfl | rfl
      all_goals
        go_wp2_with (go_at_call 76; refine HT.out.mono ?_; rintro e w1 ⟨rfl, hb1⟩; have HB1 := hid hb1; clear hb1)
        go_ret
        exact CodeRet.mk' HV2.out (bthen HW.out.below HB1.out)
  by_cases qc : op = 15 ∨ op = 16 ∨ op = 17
  · have HV := hid (MC.out qc)
    rcases qc with rfl | rfl | rfl
    all_goals
      go_wp2_with (go_at_call 77; refine HC.out.mono ?_; rintro e w1 ⟨rfl, hb1⟩; have HB1 := hid hb1; clear hb1)
      go_ret
      exact CodeRet.mk' HV.out (bthen HW.out.below HB1.out)
  · have q10 : op ≠ 10 := fun h => q1 (.inl h)
    have q11 : op ≠ 11 := fun h => q1 (.inr h)
    have q15 : op ≠ 15 := fun h => qc (.inl h)
    have q16 : op ≠ 16 := fun h => qc (.inr (.inl h))
    have q17 : op ≠ 17 := fun h => qc (.inr (.inr h))
    have HV := hid (MN.out q13 q10 q11 q9 q15 q16 q17)
    clear q1 qc
    go_wp2
    go_ret
    exact CodeRet.mk' HV.out HW.out.below

end Go.Proofs.YtblalejegjieaaaGreatDoor
