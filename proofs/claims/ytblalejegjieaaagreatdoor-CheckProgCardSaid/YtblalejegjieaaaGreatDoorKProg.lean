/-
  Package check: a condition's fault; an instruction's; where each stands.
-/
import Derived.Test.YtblalejegjieaaaGreatDoorKArnd
import Derived.Deep.RegionHeld3
namespace Go.Proofs.YtblalejegjieaaaGreatDoor
open Go.RowKit
set_option linter.unusedVariables false

set_option maxRecDepth 100000 in
set_option maxHeartbeats 4000000 in
theorem cond_any {sb : Nat → Addr} (c : Cfg) (s : CV) (i : Nat) (w : World) (hE : Errs sb w) (hc : CfgIn w c s) (hi : i < s.nc) :
    Calls Tryz.prog 23 #[c.v s, .int .i64 (i : Int)] w (ToldRet sb (condF c s i) w) := by
  have HE := hid hE
  have HL := hid hc.locks
  obtain ⟨b, off, ha, hbl, hcell⟩ := hc.conds.at (by omega)
  have hz := hcell i hi
  have hf := hc.fl
  have hfc := hc.fc
  have HF : Hid (condF c s i = if inB (c.conds.getD i 0) 0 ((s.nl : Int) - 1) = true then (if (c.locks.getD (c.conds.getD i 0).toNat lk0).len = 0 then some (6, none) else none) else some (9, none)) := hid rfl
  clear hE hc hcell
  generalize c.conds.getD i 0 = z at hz HF
  obtain ⟨eng, clk, str, rds, wrs, rty, fuel, most, ls, cs, ps⟩ := c
  obtain ⟨ai, ni, ki, al, nl, kl, ac, nc, kc, ap, np, kp⟩ := s
  dsimp only at ha hi hf hfc HF HL
  subst ha
  have i0 : (0 : Int) ≤ (i : Int) := by omega
  have i1 : (i : Int) < ((nc : Nat) : Int) := by omega
  cases h1 : inB z 0 ((nl : Int) - 1)
  · have HV := hid (HF.out.trans (if_neg (by rw [h1]; simp)))
    show Calls _ _ #[.agg #[.int .i64 eng, .int .i64 clk, .int .i64 str, .int .i64 rds, .int .i64 wrs, .int .i64 rty, .int .i64 fuel, .int .i64 most, .slice ai ni ki, .slice al nl kl, .slice (some ⟨b, off, none⟩) nc kc, .slice ap np kp], .int .i64 (i : Int)] _ _
    go_enter Tryz.func23, Tryz.ntmps23
    go_wp2_with (first | (go_at_call 36; refine (kwithin_any _ _ _ _).mono ?_; rintro e w' ⟨rfl, rfl⟩) | (go_at_call 29; refine (New_any ((HE.out.below (bnew (bid w) _)).sents) 9 (by decide) (by decide)).mono ?_; rintro e w9 ⟨rfl, rfl⟩))
    go_ret
    exact ⟨_, rfl, (by rw [HV.out]; exact ⟨by decide, by decide, rfl⟩), bnew (bid w) _⟩
  · obtain ⟨z0, z1⟩ := inB_iff.1 h1
    obtain ⟨lb, lo, rfl, hlb, hlc⟩ := HL.out.at (by omega)
    have hzl : z.toNat < ls.length := by rw [HL.out.cnt]; omega
    have hlk := (hlc z.toNat _ (List.getElem?_eq_getElem hzl)).c2
    have HK : Hid ((ls.getD z.toNat lk0).len = ls[z.toNat].len) := hid (by simp [List.getD, hzl])
    generalize ls[z.toNat].len = ln at hlk HK
    have z2 : z < ((nl : Nat) : Int) := by omega
    clear hlc
    by_cases h2 : ln = 0
    · have HV := hid ((HF.out.trans (if_pos h1)).trans (if_pos (by rw [HK.out]; exact h2)))
      subst h2
      show Calls _ _ #[.agg #[.int .i64 eng, .int .i64 clk, .int .i64 str, .int .i64 rds, .int .i64 wrs, .int .i64 rty, .int .i64 fuel, .int .i64 most, .slice ai ni ki, .slice (some ⟨lb, lo, none⟩) nl kl, .slice (some ⟨b, off, none⟩) nc kc, .slice ap np kp], .int .i64 (i : Int)] _ _
      go_enter Tryz.func23, Tryz.ntmps23
      go_wp2_with (first | (go_at_call 36; refine (kwithin_any _ _ _ _).mono ?_; rintro e w' ⟨rfl, rfl⟩) | (go_at_call 29; refine (New_any ((HE.out.below (bnew (bid w) _)).sents) 6 (by decide) (by decide)).mono ?_; rintro e w9 ⟨rfl, rfl⟩))
      go_ret
      exact ⟨_, rfl, (by rw [HV.out]; exact ⟨by decide, by decide, rfl⟩), bnew (bid w) _⟩
    · have HV := hid ((HF.out.trans (if_pos h1)).trans (if_neg (by rw [HK.out]; exact h2)))
      show Calls _ _ #[.agg #[.int .i64 eng, .int .i64 clk, .int .i64 str, .int .i64 rds, .int .i64 wrs, .int .i64 rty, .int .i64 fuel, .int .i64 most, .slice ai ni ki, .slice (some ⟨lb, lo, none⟩) nl kl, .slice (some ⟨b, off, none⟩) nc kc, .slice ap np kp], .int .i64 (i : Int)] _ _
      go_enter Tryz.func23, Tryz.ntmps23
      go_wp2_with (go_at_call 36; refine (kwithin_any _ _ _ _).mono ?_; rintro e w' ⟨rfl, rfl⟩)
      go_ret
      exact ⟨_, rfl, (by rw [HV.out]; rfl), bnew (bid w) _⟩

set_option maxRecDepth 100000 in
set_option maxHeartbeats 4000000 in
theorem instr1_any {sb : Nat → Addr} (x : Ins) (w : World) (hE : Errs sb w) :
    Calls Tryz.prog 57 #[x.v] w (ToldRet sb (instrF x) w) := by
  have HE := hid hE
  have HM := hid (May_any x)
  have HF : Hid (instrF x = if mayB x = true then none else some (1, none)) := hid rfl
  clear hE
  generalize mayB x = m at HM HF
  obtain ⟨op, a, b, c, n⟩ := x
  show Calls _ _ #[.agg #[.int .i64 op, .int .i64 a, .int .i64 b, .int .i64 c, .int .i64 n]] _ _
  cases m
  · go_enter Tryz.func57, Tryz.ntmps57
    go_wp2_with (first | (go_at_call 72; refine (HM.out _).mono ?_; rintro e w1 ⟨rfl, hb1⟩; have HB1 := hid hb1; clear hb1) | (go_at_call 29; refine (New_any ((HE.out.below (bthen (bnew (bid w) _) HB1.out)).sents) 1 (by decide) (by decide)).mono ?_; rintro e w9 ⟨rfl, rfl⟩))
    go_ret
    exact ⟨_, rfl, (by rw [HF.out]; exact ⟨by decide, by decide, rfl⟩), bthen (bnew (bid w) _) HB1.out⟩
  · go_enter Tryz.func57, Tryz.ntmps57
    go_wp2_with (go_at_call 72; refine (HM.out _).mono ?_; rintro e w1 ⟨rfl, hb1⟩; have HB1 := hid hb1; clear hb1)
    go_ret
    exact ⟨_, rfl, (by rw [HF.out]; rfl), bthen (bnew (bid w) _) HB1.out⟩

set_option maxRecDepth 100000 in
set_option maxHeartbeats 4000000 in
/-- The first closure: an instruction's own fault. -/
theorem cl1_any {sb : Nat → Addr} (pb : Nat) (pa : Option Addr) (n c : Nat) (ps : List Ins) (k : Nat) (W : World) (hE : Errs sb W) (hp : W.cell? ⟨pb, 0, none⟩ = some (.slice pa n c)) (hr : InsRow W pa n ps) (hk : k < n) (hn : n ≤ 1000) :
    Calls Tryz.prog 56 #[.int .i64 (k : Int), .pointer (some ⟨pb, 0, none⟩)] W (ToldRet sb (instrF (ps.getD k ins0)) W) := by
  have hll : k < ps.length := by rw [hr.cnt]; exact hk
  obtain ⟨b, off, rfl, hb, hcell⟩ := hr.at (by omega)
  have hI := hcell k _ (List.getElem?_eq_getElem hll)
  have e : ps.getD k ins0 = ps[k] := by simp [List.getD, hll]
  rw [e]
  generalize ps[k] = x at hI
  have HX := hid (fun W2 (hb : Below W.heap.size W W2) => instr1_any x W2 (hE.below hb))
  obtain ⟨c0, c1, c2, c3, c4⟩ := hI
  have i0 : (0 : Int) ≤ (k : Int) := by omega
  have i1 : (k : Int) < ((n : Nat) : Int) := by omega
  clear hcell hr hE e
  obtain ⟨op, a, b', c', n'⟩ := x
  dsimp only at c0 c1 c2 c3 c4
  go_enter Tryz.func56, Tryz.ntmps56
  go_wp2_with (go_at_call 57; refine (HX.out _ (bid W)).mono ?_; rintro e w1 ⟨v, rfl, ht, hb1⟩; have HB1 := hid hb1; have HT := hid ht; clear hb1 ht)
  go_ret
  exact ⟨_, rfl, HT.out, HB1.out⟩

/-- New at any code that is one, or at 0. -/
theorem New_code {sb : Nat → Addr} (n : Nat) (W : World) (hE : Errs sb W) (hn : n ≤ 10) :
    Calls Tryz.prog 29 #[.int .i64 (n : Int)] W (ToldRet sb (codeF n) W) := by
  by_cases h0 : n = 0
  · subst h0
    refine (New_none _ _ (by omega)).mono ?_
    rintro e w' ⟨rfl, rfl⟩
    exact ⟨_, rfl, rfl, bid _⟩
  · refine (New_any hE.sents n (by omega) hn).mono ?_
    rintro e w' ⟨rfl, rfl⟩
    refine ⟨_, rfl, ?_, bid _⟩
    unfold codeF
    rw [if_neg h0]
    exact ⟨by omega, hn, rfl⟩
theorem misF_le (c : Cfg) (s : CV) (x : Ins) (d : Std) : misF c s x d ≤ 10 := by
  have h1 : enterF c s x d ≤ 10 := by unfold enterF; repeat' split
                                      all_goals omega
  have h2 : storeF d ≤ 10 := by unfold storeF; repeat' split
                                all_goals omega
  have h3 : callF c s x d ≤ 10 := by
    unfold callF
    split
    · omega
    · split
      · omega
      · split
        · omega
        · split <;> omega
  unfold misF
  repeat' split
  all_goals first | omega | assumption

set_option maxRecDepth 100000 in
set_option maxHeartbeats 4000000 in
/-- The second closure: an instruction where it stands. -/
theorem cl2_any {sb : Nat → Addr} (cb pb mb : Nat) (c : Cfg) (s : CV) (pa : Option Addr) (n cp : Nat) (ps : List Ins) (ma : Option Addr) (mn mc : Nat) (ms : List Int) (k : Nat) (W : World) (hE : Errs sb W) (hc : CfgIn W c s) (hcb : CfgBox W cb c s) (hp : W.cell? ⟨pb, 0, none⟩ = some (.slice pa n cp)) (hr : InsRow W pa n ps)
    (hmc : W.cell? ⟨mb, 0, none⟩ = some (.slice ma mn mc)) (hm : IntRow W ma mn ms) (hk : k < n) (hn : n ≤ 48) (hnc : n ≤ cp) (hcm : cp ≤ maxLen) (hmn : n ≤ mn) (hmm : mn ≤ 1000) (hmay : ∀ x ∈ ps, 0 ≤ x.a) :
    Calls Tryz.prog 59 #[.int .i64 (k : Int), .pointer (some ⟨cb, 0, none⟩), .pointer (some ⟨pb, 0, none⟩), .pointer (some ⟨mb, 0, none⟩)] W (ToldRet sb (codeF (misF c s (ps.getD k ins0) (aroundF ps ms k))) W) := by
  have hll : k < ps.length := by rw [hr.cnt]; exact hk
  have HA := hid (fun W2 (hb : Below W.heap.size W W2) => around_any pa n cp ps ma mn mc ms k W2 (hr.below hb) (hm.below hb) (by omega) hnc hcm hmn hmm (by omega))
  obtain ⟨b, off, rfl, hb, hcell⟩ := hr.at (by omega)
  have hI := hcell k _ (List.getElem?_eq_getElem hll)
  have e : ps.getD k ins0 = ps[k] := by simp [List.getD, hll]
  have h0 := hmay _ (List.getElem_mem hll)
  rw [e]
  generalize ps[k] = x at hI h0
  have HM := hid (fun W2 (hb : Below W.heap.size W W2) (a : Option Addr) (cc : Nat) (hr : InsRow W2 a (aroundF ps ms k).op.length (aroundF ps ms k).op) (hl : (aroundF ps ms k).op.length ≤ 100000) => mis_any c s x (aroundF ps ms k) a cc W2 (hc.below hb) h0 hr hl)
  have HN := hid (fun W2 (hb : Below W.heap.size W W2) => New_code (misF c s x (aroundF ps ms k)) W2 (hE.below hb) (misF_le c s x (aroundF ps ms k)))
  obtain ⟨c0, c1, c2, c3, c4⟩ := hI
  have i0 : (0 : Int) ≤ (k : Int) := by omega
  have i1 : (k : Int) < ((n : Nat) : Int) := by omega
  obtain ⟨k0, k1, k2, k3, k4, k5, k6, k7, k8, k9, k10, k11⟩ := CfgBox.facts (eng := c.eng) (clk := c.clk) (str := c.str) (rds := c.rds) (wrs := c.wrs) (rty := c.rty) (fuel := c.fuel) (most := c.most) (ls := c.locks) (cs := c.conds) (ps := c.progs) (ai := s.ai) (ni := s.ni) (ki := s.ki) (al := s.al) (nl := s.nl) (kl := s.kl) (ac := s.ac) (nc := s.nc) (kc := s.kc) (ap := s.ap) (np := s.np) (kp := s.kp) hcb
  clear hcell hr hE e hc hm hmay
  generalize aroundF ps ms k = d at HA HM HN ⊢
  generalize misF c s x d = mm at HM HN ⊢
  have HK : Hid (∀ w', Below W.heap.size W w' → Below W.heap.size W w' ∧ w'.cell? ⟨cb, 0, none⟩ = some (.int .i64 c.eng) ∧ w'.cell? ⟨cb, 1, none⟩ = some (.int .i64 c.clk) ∧ w'.cell? ⟨cb, 2, none⟩ = some (.int .i64 c.str) ∧ w'.cell? ⟨cb, 3, none⟩ = some (.int .i64 c.rds) ∧ w'.cell? ⟨cb, 4, none⟩ = some (.int .i64 c.wrs) ∧ w'.cell? ⟨cb, 5, none⟩ = some (.int .i64 c.rty) ∧ w'.cell? ⟨cb, 6, none⟩ = some (.int .i64 c.fuel) ∧ w'.cell? ⟨cb, 7, none⟩ = some (.int .i64 c.most) ∧ w'.cell? ⟨cb, 8, none⟩ = some (.slice s.ai s.ni s.ki) ∧ w'.cell? ⟨cb, 9, none⟩ = some (.slice s.al s.nl s.kl) ∧ w'.cell? ⟨cb, 10, none⟩ = some (.slice s.ac s.nc s.kc) ∧ w'.cell? ⟨cb, 11, none⟩ = some (.slice s.ap s.np s.kp) ∧ w'.cell? ⟨pb, 0, none⟩ = some (.slice (some ⟨b, off, none⟩) n cp) ∧ w'.cell? ⟨mb, 0, none⟩ = some (.slice ma mn mc) ∧ w'.cell? ⟨b, off + k * 5, none⟩ = some (.int .i64 x.op) ∧ w'.cell? ⟨b, off + k * 5 + 1, none⟩ = some (.int .i64 x.a) ∧ w'.cell? ⟨b, off + k * 5 + 2, none⟩ = some (.int .i64 x.b) ∧ w'.cell? ⟨b, off + k * 5 + 3, none⟩ = some (.int .i64 x.c) ∧ w'.cell? ⟨b, off + k * 5 + 4, none⟩ = some (.int .i64 x.n)) := hid fun w' hb => by
    have kp : ∀ {a : Addr} {v : Value}, W.cell? a = some v → w'.cell? a = some v := fun {a v} h => (hb.cell (World.block_lt_of_cell? _ _ h)).trans h
    exact ⟨hb, kp k0, kp k1, kp k2, kp k3, kp k4, kp k5, kp k6, kp k7, kp k8, kp k9, kp k10, kp k11, kp hp, kp hmc, kp c0, kp c1, kp c2, kp c3, kp c4⟩
  go_enter Tryz.func59, Tryz.ntmps59
  go_wp2
  go_region_held3 (fun w' => Below W.heap.size W w' ∧ w'.cell? ⟨cb, 0, none⟩ = some (.int .i64 c.eng) ∧ w'.cell? ⟨cb, 1, none⟩ = some (.int .i64 c.clk) ∧ w'.cell? ⟨cb, 2, none⟩ = some (.int .i64 c.str) ∧ w'.cell? ⟨cb, 3, none⟩ = some (.int .i64 c.rds) ∧ w'.cell? ⟨cb, 4, none⟩ = some (.int .i64 c.wrs) ∧ w'.cell? ⟨cb, 5, none⟩ = some (.int .i64 c.rty) ∧ w'.cell? ⟨cb, 6, none⟩ = some (.int .i64 c.fuel) ∧ w'.cell? ⟨cb, 7, none⟩ = some (.int .i64 c.most) ∧ w'.cell? ⟨cb, 8, none⟩ = some (.slice s.ai s.ni s.ki) ∧ w'.cell? ⟨cb, 9, none⟩ = some (.slice s.al s.nl s.kl) ∧ w'.cell? ⟨cb, 10, none⟩ = some (.slice s.ac s.nc s.kc) ∧ w'.cell? ⟨cb, 11, none⟩ = some (.slice s.ap s.np s.kp) ∧ w'.cell? ⟨pb, 0, none⟩ = some (.slice (some ⟨b, off, none⟩) n cp) ∧ w'.cell? ⟨mb, 0, none⟩ = some (.slice ma mn mc) ∧ w'.cell? ⟨b, off + k * 5, none⟩ = some (.int .i64 x.op) ∧ w'.cell? ⟨b, off + k * 5 + 1, none⟩ = some (.int .i64 x.a) ∧ w'.cell? ⟨b, off + k * 5 + 2, none⟩ = some (.int .i64 x.b) ∧ w'.cell? ⟨b, off + k * 5 + 3, none⟩ = some (.int .i64 x.c) ∧ w'.cell? ⟨b, off + k * 5 + 4, none⟩ = some (.int .i64 x.n)) (first | exact HK.out _ (bdrew (bid _)) | exact HK.out _ HB3.out | exact HK.out _ HB2.out | exact HK.out _ HB1.out)
    (first | (go_at_call 61; refine (HA.out _ (bdrew (bid _))).mono ?_; rintro e w1 ⟨a, cc, rfl, hrow, hlen, hb1⟩; have HB1 := hid (bthen (bdrew (bid _)) hb1); have HRW := hid hrow; have HLN := hid hlen; clear hb1 hrow hlen) | (go_at_call 60; refine (HM.out _ HB1.out _ _ HRW.out HLN.out).mono ?_; rintro e w2 ⟨rfl, hb2⟩; have HB2 := hid (bthen HB1.out hb2); clear hb2) | (go_at_call 29; refine (HN.out _ HB2.out).mono ?_; rintro e w3 ⟨v, rfl, ht, hb3⟩; have HB3 := hid (bthen HB2.out hb3); have HT := hid ht; clear ht hb3))
  go_wp2
  go_ret
  exact ⟨_, rfl, HT.out, HB3.out⟩

end Go.Proofs.YtblalejegjieaaaGreatDoor
