/-
  Package check: a program's fault; what a run begins with.
-/
import Derived.Test.YtblalejegjieaaaGreatDoorKProg
namespace Go.Proofs.YtblalejegjieaaaGreatDoor
open Go.RowKit
set_option linter.unusedVariables false

theorem firstF_inv : ∀ (m k : Nat) (t : Int) (f : Nat → Flt), firstF m k t f = none → ∀ j, k ≤ j → j < k + m → f j = none := by
  intro m
  induction m with
  | zero => intro k t f _ j h1 h2; omega
  | succ m ih =>
    intro k t f h j h1 h2
    cases hk : f k with
    | none =>
      rw [firstF_step hk] at h
      by_cases e : j = k
      · subst e; exact hk
      · exact ih (k + 1) t f h j (by omega) (by omega)
    | some x =>
      rw [firstF_hit hk] at h
      obtain ⟨a, b⟩ := x
      cases b <;> cases h
theorem may_pos {x : Ins} (h : mayB x = true) : 0 ≤ x.a := by
  unfold mayB at h
  simp only [Bool.and_eq_true] at h
  exact (amongB_iff.1 h.1.1.1.2).1
theorem instrF_none {x : Ins} (h : instrF x = none) : mayB x = true := by
  unfold instrF at h
  split at h
  · assumption
  · cases h
theorem mstep_len {os : List Int} {k : Nat} {s s' : MSt} (h : mstep os k s = some s') : s'.ms.length = s.ms.length := by
  unfold mstep at h
  split at h
  · cases h; simp
  · split at h
    · split at h
      · cases h
      · split at h
        · cases h; simp [mjoin_len]
        · cases h
    · cases h; simp
theorem mgo_len : ∀ (f k : Nat) (os : List Int) (s : MSt), (mgo os f k s).2 < 0 → (mgo os f k s).1.length = s.ms.length := by
  intro f
  induction f with
  | zero =>
    intro k os s h
    unfold mgo mend at h ⊢
    split
    · rfl
    · rename_i h1; rw [h1] at h; dsimp only at h; omega
  | succ f ih =>
    intro k os s h
    unfold mgo at h ⊢
    cases hs : mstep os k s with
    | none => rw [hs] at h; dsimp only at h; omega
    | some s' =>
      rw [hs] at h
      dsimp only at h ⊢
      rw [ih _ _ _ h, mstep_len hs]
theorem mates_len {ps : List Ins} (h : (matesOf (opsOf ps)).2 < 0) : (matesOf (opsOf ps)).1.length = ps.length := by
  unfold matesOf at h ⊢
  rw [mgo_len _ _ _ _ h]
  simp [opsOf]
theorem mgo_lo : ∀ (f k : Nat) (os : List Int) (s : MSt), -1 ≤ (mgo os f k s).2 := by
  intro f
  induction f with
  | zero =>
    intro k os s
    unfold mgo mend
    split <;> (dsimp only; omega)
  | succ f ih =>
    intro k os s
    unfold mgo
    split
    · dsimp only; omega
    · exact ih _ _ _

/-- What lies while a program is looked at. -/
structure WpSt (w : World) (c : Cfg) (s : CV) (pa : Option Addr) (n cp : Nat) (W : World) : Prop where
  cfg : CfgBox W w.heap.size c s
  prg : W.heap[w.heap.size + 1]? = some (.cells #[.slice pa n cp] 38 (0, 0))
  below : Below w.heap.size w W
theorem WpSt.later {w W W' : World} {c : Cfg} {s : CV} {pa : Option Addr} {n cp : Nat} (h : WpSt w c s pa n cp W) (hb : Below W.heap.size W W') : WpSt w c s pa n cp W' :=
  ⟨h.cfg.below hb, (hb.block _ (lt_of_block h.prg)).trans h.prg, bthen h.below hb⟩
theorem WpSt.new (w : World) (c : Cfg) (s : CV) (pa : Option Addr) (n cp : Nat) : WpSt w c s pa n cp ((w.alloc (.cells (c.cs s) 34)).alloc (.cells #[.slice pa n cp] 38)) := by
  refine ⟨(CfgBox.new w c s).below (bnew (bid _) _), ?_, bnew (bnew (bid w) _) _⟩
  have := heap_alloc_new (w.alloc (.cells (c.cs s) 34)) (.cells #[.slice pa n cp] 38)
  rw [size_alloc1] at this
  exact this

theorem heap_alloc_new1 (w : World) (o o' : Obj) : ((w.alloc o).alloc o').heap[w.heap.size + 1]? = some o' := by
  have := heap_alloc_new (w.alloc o) o'
  rw [size_alloc1] at this
  exact this
theorem wrongF_1 {c : Cfg} {s : CV} {p : List Ins} {t : Int} (h : 48 < p.length) : wrongF c s p t = some (4, none) := by unfold wrongF; exact if_pos h
theorem wrongF_2 {c : Cfg} {s : CV} {p : List Ins} {t : Int} {x : Nat × Option (Int × Int)} (h : ¬ 48 < p.length) (h2 : firstF p.length 0 t (fun k => instrF (p.getD k ins0)) = some x) : wrongF c s p t = some x := by
  unfold wrongF; rw [if_neg h, h2]; rfl
theorem wrongF_3 {c : Cfg} {s : CV} {p : List Ins} {t : Int} (h : ¬ 48 < p.length) (h2 : firstF p.length 0 t (fun k => instrF (p.getD k ins0)) = none) (h3 : 0 ≤ (matesOf (opsOf p)).2) : wrongF c s p t = some (5, some (t, (matesOf (opsOf p)).2)) := by
  unfold wrongF blocksF; rw [if_neg h, h2]; exact if_pos h3
theorem wrongF_4 {c : Cfg} {s : CV} {p : List Ins} {t : Int} (h : ¬ 48 < p.length) (h2 : firstF p.length 0 t (fun k => instrF (p.getD k ins0)) = none) (h3 : ¬ 0 ≤ (matesOf (opsOf p)).2) : wrongF c s p t = firstF p.length 0 t (fun k => codeF (misF c s (p.getD k ins0) (aroundF p (matesOf (opsOf p)).1 k))) := by
  unfold wrongF blocksF; rw [if_neg h, h2]; exact if_neg h3

set_option maxRecDepth 100000 in
set_option maxHeartbeats 8000000 in
theorem wrongProg_any {sb : Nat → Addr} (c : Cfg) (s : CV) (t : Nat) (w : World) (hE : Errs sb w) (hc : CfgIn w c s) (ht : t < s.np) :
    Calls Tryz.prog 38 #[c.v s, .int .i64 (t : Int)] w (ToldRet sb (wrongF c s (c.progs.getD t []) (t : Int)) w) := by
  have HE := hid hE
  have HC := hid hc
  obtain ⟨b, off, pa, cp, p, hap, hbl, hp, hcell, hpc, hcm, hrow⟩ := hc.progs.at ht
  have e : c.progs.getD t [] = p := by simp [List.getD, hp]
  rw [e]
  have hf := hc.fp
  clear hc hE e hp
  have HROW := hid hrow
  clear hrow
  have HS := hid (WpSt.new w c s pa p.length cp)
  have HPC := hid (And.intro hpc hcm)
  have h1 := wrongF_1 (c := c) (s := s) (p := p) (t := (t : Int))
  have HWF1 := hid h1
  have HWF2 := hid (fun (x : Nat × Option (Int × Int)) => wrongF_2 (c := c) (s := s) (p := p) (t := (t : Int)) (x := x))
  have HWF3 := hid (wrongF_3 (c := c) (s := s) (p := p) (t := (t : Int)))
  have HWF4 := hid (wrongF_4 (c := c) (s := s) (p := p) (t := (t : Int)))
  clear h1
  generalize hR : wrongF c s p (t : Int) = R at HWF1 HWF2 HWF3 HWF4
  clear hR
  have i0 : (0 : Int) ≤ (t : Int) := by omega
  have i1 : (t : Int) < ((s.np : Nat) : Int) := by omega
  have hm2 := hcm
  unfold maxLen at hm2
  go_enter Tryz.func38, Tryz.ntmps38
  rw [show c.v s = .agg #[.int .i64 c.eng, .int .i64 c.clk, .int .i64 c.str, .int .i64 c.rds, .int .i64 c.wrs, .int .i64 c.rty, .int .i64 c.fuel, .int .i64 c.most, .slice s.ai s.ni s.ki, .slice s.al s.nl s.kl, .slice s.ac s.nc s.kc, .slice s.ap s.np s.kp] from rfl, hap]
  go_upto_region 2 with fail
  refine wp_rename (fun W => WpSt w c s pa p.length cp W) (by have h := HS.out; rw [show c.cs s = #[.int .i64 c.eng, .int .i64 c.clk, .int .i64 c.str, .int .i64 c.rds, .int .i64 c.wrs, .int .i64 c.rty, .int .i64 c.fuel, .int .i64 c.most, .slice s.ai s.ni s.ki, .slice s.al s.nl s.kl, .slice s.ac s.nc s.kc, .slice s.ap s.np s.kp] from rfl, hap] at h; exact h) ?_
  intro W hW
  have HW := hid hW
  clear hW HS hcell
  have p0 := cell_of_blk HW.out.prg 0
  simp only [List.getElem?_toArray, List.getElem?_cons_zero] at p0
  have hpl : (p.length : Int) ≤ 9223372036854775807 := by omega
  have HEW := hid (HE.out.below HW.out.below)
  by_cases h48 : 48 < p.length
  · have e48 : (48 : Int) < (p.length : Int) := by omega
    have HV := hid (HWF1.out h48)
    go_wp2_with (go_at_call 29; refine (New_any HEW.out.sents 4 (by decide) (by decide)).mono ?_; rintro e w9 ⟨rfl, rfl⟩)
    go_ret
    exact ⟨_, rfl, (by rw [HV.out]; exact ⟨by decide, by decide, rfl⟩), HW.out.below⟩
  · have e48 : ¬ (48 : Int) < (p.length : Int) := by omega
    have HF1 := hid (first_any (w := W) HEW.out p.length (by omega) (t : Int) 56 #[.pointer (some ⟨w.heap.size + 1, 0, none⟩)] (fun k => instrF (p.getD k ins0)) (fun _ _ => by simp [go_sem])
      (fun k hk W2 hb2 => cl1_any (w.heap.size + 1) pa p.length cp p k W2 (HEW.out.below hb2) (cell_of_blk (HW.out.later hb2).prg 0) (HROW.out.below (bthen HW.out.below hb2)) hk (by omega)))
    cases hf1 : firstF p.length 0 (t : Int) (fun k => instrF (p.getD k ins0)) with
    | some x =>
      rw [hf1] at HF1
      have HV := hid (HWF2.out x h48 hf1)
      clear hf1
      go_wp2_with (go_at_call 19; refine HF1.out.mono ?_; rintro e w1 ⟨v, rfl, ht1, hb1⟩; obtain ⟨T1, b1, hv⟩ := Tells.err ht1; subst hv; have HT := hid ht1; have HB1 := hid hb1; have q2 := run_neq_err T1 (.pointer (some b1)); clear ht1 hb1)
      go_ret
      exact ⟨_, rfl, (by rw [HV.out]; exact HT.out), bthen HW.out.below HB1.out⟩
    | none =>
      rw [hf1] at HF1
      have HMAY := hid (fun x (hx : x ∈ p) => by
        obtain ⟨j, hj, he⟩ := List.mem_iff_getElem.1 hx
        have h := firstF_inv _ _ _ _ hf1 j (Nat.zero_le _) (by omega)
        have h2 : p.getD j ins0 = x := by simp [List.getD, hj, he]
        rw [h2] at h
        exact may_pos (instrF_none h))
      have HW3 := hid (HWF3.out h48 hf1)
      have HW4 := hid (HWF4.out h48 hf1)
      have q1 := run_neq_nils
      clear hf1
      by_cases hbad : 0 ≤ (matesOf (opsOf p)).2
      · have HV := hid (HW3.out hbad)
        go_wp2_with (first | (go_at_call 19; refine HF1.out.mono ?_; rintro e w1 ⟨v, rfl, ht1, hb1⟩; have hv : v = .nilIface := ht1; subst hv; have HB1 := hid hb1; have HL1 := hid (HW.out.later hb1); have p1 := cell_of_blk HL1.out.prg 0; simp only [List.getElem?_toArray, List.getElem?_cons_zero] at p1; clear ht1 hb1) | (go_at_call 58; refine (Mates_any _ _ _ p _ (HROW.out.below HL1.out.below) (by omega)).mono ?_; rintro e w2 ⟨ma, mc, rfl, hmr, hmo, hb2⟩; have HB2 := hid hb2; clear hmr hmo hb2) | (go_at_call 29; refine (New_any ((HE.out.below (bnew (bthen HL1.out.below HB2.out) _)).sents) 5 (by decide) (by decide)).mono ?_; rintro e w9 ⟨rfl, rfl⟩) | (go_at_call 40; refine (Put_err _ _ _ _ _).mono ?_; rintro e w3 ⟨rfl, rfl⟩))
        go_ret
        exact ⟨_, rfl, (by rw [HV.out]; exact ⟨by decide, by decide, _, rfl, heap_alloc_new1 _ _ _⟩), bnew (bnew (bthen HL1.out.below HB2.out) _) _⟩
      · have HV := hid (HW4.out hbad)
        have HLN := hid (mates_len (ps := p) (by omega))
        have hbad' : (matesOf (opsOf p)).2 = -1 := by have := mgo_lo (opsOf p).length 0 (opsOf p) ⟨List.replicate (opsOf p).length 0, []⟩; unfold matesOf at hbad ⊢; omega
        go_upto_region 8 with (first | (go_at_call 19; refine HF1.out.mono ?_; rintro e w1 ⟨v, rfl, ht1, hb1⟩; have hv : v = .nilIface := ht1; subst hv; have HB1 := hid hb1; have HL1 := hid (HW.out.later hb1); have p1 := cell_of_blk HL1.out.prg 0; simp only [List.getElem?_toArray, List.getElem?_cons_zero] at p1; clear ht1 hb1) | (go_at_call 58; refine (Mates_any _ _ _ p _ (HROW.out.below HL1.out.below) (by omega)).mono ?_; rintro e w2 ⟨ma, mc, rfl, hmr, hmo, hb2⟩; have HL2 := hid (HL1.out.later hb2); have HMR := hid hmr; rw [hbad']; clear hmr hmo hb2))
        refine wp_rename (fun W4 => WpSt w c s pa p.length cp W4 ∧ W4.heap[w2.heap.size]? = some (.cells #[.slice ma (matesOf (opsOf p)).1.length mc] 31 (0, 0)) ∧ IntRow W4 ma (matesOf (opsOf p)).1.length (matesOf (opsOf p)).1) ⟨HL2.out.later (bnew (bid _) _), heap_alloc_new _ _, HMR.out.below (bnew (bid _) _)⟩ ?_
        rintro W4 ⟨hw4, hbx, hir⟩
        generalize w2.heap.size = H at hbx ⊢
        have H4 := hid hw4
        have HBX := hid hbx
        have HIR := hid hir
        have HE4 := hid (HE.out.below hw4.below)
        clear hw4 hbx hir
        have HF2 := hid (first_any (w := W4) HE4.out p.length (by omega) (t : Int) 59 #[.pointer (some ⟨w.heap.size, 0, none⟩), .pointer (some ⟨w.heap.size + 1, 0, none⟩), .pointer (some ⟨H, 0, none⟩)] (fun k => codeF (misF c s (p.getD k ins0) (aroundF p (matesOf (opsOf p)).1 k))) (fun _ _ => by simp [go_sem])
          (fun k hk W5 hb5 => cl2_any w.heap.size (w.heap.size + 1) H c s pa p.length cp p ma (matesOf (opsOf p)).1.length mc (matesOf (opsOf p)).1 k W5 (HE4.out.below hb5) (HC.out.below (bthen H4.out.below hb5)) (H4.out.later hb5).cfg (cell_of_blk (H4.out.later hb5).prg 0) (HROW.out.below (bthen H4.out.below hb5)) (cell_of_blk ((hb5.block _ (lt_of_block HBX.out)).trans HBX.out) 0) (HIR.out.below hb5) hk (by omega) HPC.out.1 HPC.out.2 (by rw [HLN.out]; exact Nat.le_refl _) (by rw [HLN.out]; omega) HMAY.out))
        have p4 := cell_of_blk H4.out.prg 0
        simp only [List.getElem?_toArray, List.getElem?_cons_zero] at p4
        go_wp2_with (go_at_call 19; refine HF2.out.mono ?_; rintro e w6 ⟨v6, rfl, ht6, hb6⟩; have HT6 := hid ht6; have HB6 := hid hb6; clear ht6 hb6)
        go_ret
        exact ⟨_, rfl, (by rw [HV.out]; exact HT6.out), bthen H4.out.below HB6.out⟩

set_option maxRecDepth 100000 in
set_option maxHeartbeats 4000000 in
theorem Prog_any {sb : Nat → Addr} (c : Cfg) (s : CV) (t : Nat) (w : World) (hE : Errs sb w) (hc : CfgIn w c s) (ht : t < s.np) :
    Calls Tryz.prog 25 #[c.v s, .int .i64 (t : Int)] w (ToldRet sb (progF c s t) w) := by
  have hn := hc.fp
  have HC := hid (CfgBox.new w c s)
  have HWP := hid (wrongProg_any c s t (w.alloc (.cells (c.cs s) 34)) (hE.below (bnew (bid w) _)) (hc.below (bnew (bid w) _)) ht)
  have HE := hid hE
  have HF : Hid (progF c s t = placeF (wrongF c s (c.progs.getD t []) (t : Int)) (t : Int) (-1)) := hid rfl
  generalize wrongF c s (c.progs.getD t []) (t : Int) = R at HWP HF
  clear hc hE
  obtain ⟨k0, k1, k2, k3, k4, k5, k6, k7, k8, k9, k10, k11⟩ := CfgBox.facts (eng := c.eng) (clk := c.clk) (str := c.str) (rds := c.rds) (wrs := c.wrs) (rty := c.rty) (fuel := c.fuel) (most := c.most) (ls := c.locks) (cs := c.conds) (ps := c.progs) (ai := s.ai) (ni := s.ni) (ki := s.ki) (al := s.al) (nl := s.nl) (kl := s.kl) (ac := s.ac) (nc := s.nc) (kc := s.kc) (ap := s.ap) (np := s.np) (kp := s.kp) HC.out
  have hin : inB (t : Int) 0 ((s.np : Int) - 1) = true := inB_iff.2 ⟨by omega, by omega⟩
  go_enter Tryz.func25, Tryz.ntmps25
  go_upto_region 1 with fail
  refine wp_rename (fun W => W = w.alloc (.cells (c.cs s) 34)) rfl ?_
  intro W hW
  rw [← hW] at HC HWP k0 k1 k2 k3 k4 k5 k6 k7 k8 k9 k10 k11
  have HBW := hid (show Below w.heap.size w W by rw [hW]; exact bnew (bid w) _)
  clear hW
  go_wp2_with (first | (go_at_call 36; refine (kwithin_any _ _ _ _).mono ?_; rintro e w' ⟨rfl, rfl⟩) | (go_at_call 38; refine HWP.out.mono ?_; rintro e w1 ⟨v, rfl, ht1, hb1⟩; have HT := hid ht1; have HB1 := hid hb1; clear ht1 hb1) | (go_at_call 26; refine (placed_any (HE.out.below (bthen HBW.out HB1.out)) HT.out _ _).mono ?_; rintro e w2 ⟨v2, rfl, ht2, hb2⟩; have HT2 := hid ht2; have HB2 := hid hb2; clear ht2 hb2))
  go_ret
  exact ⟨_, rfl, (by rw [HF.out]; exact HT2.out), bthen (bthen HBW.out HB1.out) HB2.out⟩

theorem cfg_facts {w : World} {q : Nat} {c : Cfg} {s : CV} (h : CfgBox w q c s) : w.cell? ⟨q, 0, none⟩ = some (.int .i64 c.eng) ∧ w.cell? ⟨q, 1, none⟩ = some (.int .i64 c.clk) ∧ w.cell? ⟨q, 2, none⟩ = some (.int .i64 c.str) ∧ w.cell? ⟨q, 3, none⟩ = some (.int .i64 c.rds) ∧ w.cell? ⟨q, 4, none⟩ = some (.int .i64 c.wrs) ∧ w.cell? ⟨q, 5, none⟩ = some (.int .i64 c.rty) ∧ w.cell? ⟨q, 6, none⟩ = some (.int .i64 c.fuel) ∧ w.cell? ⟨q, 7, none⟩ = some (.int .i64 c.most) ∧ w.cell? ⟨q, 8, none⟩ = some (.slice s.ai s.ni s.ki) ∧ w.cell? ⟨q, 9, none⟩ = some (.slice s.al s.nl s.kl) ∧ w.cell? ⟨q, 10, none⟩ = some (.slice s.ac s.nc s.kc) ∧ w.cell? ⟨q, 11, none⟩ = some (.slice s.ap s.np s.kp) :=
  CfgBox.facts (eng := c.eng) (clk := c.clk) (str := c.str) (rds := c.rds) (wrs := c.wrs) (rty := c.rty) (fuel := c.fuel) (most := c.most) (ls := c.locks) (cs := c.conds) (ps := c.progs) (ai := s.ai) (ni := s.ni) (ki := s.ki) (al := s.al) (nl := s.nl) (kl := s.kl) (ac := s.ac) (nc := s.nc) (kc := s.kc) (ap := s.ap) (np := s.np) (kp := s.kp) h

set_option maxRecDepth 100000 in
set_option maxHeartbeats 1000000 in
theorem ccl1_any {sb : Nat → Addr} (q : Nat) (c : Cfg) (s : CV) (k : Nat) (W : World) (hE : Errs sb W) (hc : CfgIn W c s) (hq : CfgBox W q c s) (hk : k < s.nl) :
    Calls Tryz.prog 20 #[.int .i64 (k : Int), .pointer (some ⟨q, 0, none⟩)] W (ToldRet sb (lockF c s k) W) := by
  have HL := hid (lock_any c s k W hE hc hk)
  obtain ⟨k0, k1, k2, k3, k4, k5, k6, k7, k8, k9, k10, k11⟩ := cfg_facts hq
  clear hE hc hq
  go_enter Tryz.func20, Tryz.ntmps20
  go_wp2_with (go_at_call 21; refine HL.out.mono ?_; rintro e w1 ⟨v, rfl, ht1, hb1⟩; have HT := hid ht1; have HB1 := hid hb1; clear ht1 hb1)
  go_ret
  exact ⟨_, rfl, HT.out, HB1.out⟩

set_option maxRecDepth 100000 in
set_option maxHeartbeats 1000000 in
theorem ccl2_any {sb : Nat → Addr} (q : Nat) (c : Cfg) (s : CV) (k : Nat) (W : World) (hE : Errs sb W) (hc : CfgIn W c s) (hq : CfgBox W q c s) (hk : k < s.nc) :
    Calls Tryz.prog 22 #[.int .i64 (k : Int), .pointer (some ⟨q, 0, none⟩)] W (ToldRet sb (condF c s k) W) := by
  have HL := hid (cond_any c s k W hE hc hk)
  obtain ⟨k0, k1, k2, k3, k4, k5, k6, k7, k8, k9, k10, k11⟩ := cfg_facts hq
  clear hE hc hq
  go_enter Tryz.func22, Tryz.ntmps22
  go_wp2_with (go_at_call 23; refine HL.out.mono ?_; rintro e w1 ⟨v, rfl, ht1, hb1⟩; have HT := hid ht1; have HB1 := hid hb1; clear ht1 hb1)
  go_ret
  exact ⟨_, rfl, HT.out, HB1.out⟩

set_option maxRecDepth 100000 in
set_option maxHeartbeats 1000000 in
theorem ccl3_any {sb : Nat → Addr} (q : Nat) (c : Cfg) (s : CV) (k : Nat) (W : World) (hE : Errs sb W) (hc : CfgIn W c s) (hq : CfgBox W q c s) (hk : k < s.np) :
    Calls Tryz.prog 24 #[.int .i64 (k : Int), .pointer (some ⟨q, 0, none⟩)] W (ToldRet sb (progF c s k) W) := by
  have HL := hid (Prog_any c s k W hE hc hk)
  obtain ⟨k0, k1, k2, k3, k4, k5, k6, k7, k8, k9, k10, k11⟩ := cfg_facts hq
  clear hE hc hq
  go_enter Tryz.func24, Tryz.ntmps24
  go_wp2_with (go_at_call 25; refine HL.out.mono ?_; rintro e w1 ⟨v, rfl, ht1, hb1⟩; have HT := hid ht1; have HB1 := hid hb1; clear ht1 hb1)
  go_ret
  exact ⟨_, rfl, HT.out, HB1.out⟩

theorem configF_eq (c : Cfg) (s : CV) : configF c s = placeF (orF (amountsF c s) (orF (firstF s.nl 0 (-1) (lockF c s)) (orF (firstF s.nc 0 (-1) (condF c s)) (firstF s.np 0 (-1) (progF c s))))) (-1) (-1) := rfl

set_option maxRecDepth 100000 in
set_option maxHeartbeats 8000000 in
theorem Config_any {sb : Nat → Addr} (c : Cfg) (s : CV) (w : World) (hE : Errs sb w) (hc : CfgIn w c s) :
    Calls Tryz.prog 11 #[c.v s] w (ToldRet sb (configF c s) w) := by
  have HF := hid (configF_eq c s)
  generalize configF c s = R at HF ⊢
  have HN := hid (CfgBox.new w c s)
  have hfl := hc.fl
  have hfc := hc.fc
  have hfp := hc.fp
  have HE := hid hE
  have HC := hid hc
  clear hE hc
  go_enter Tryz.func11, Tryz.ntmps11
  go_upto_region 1 with fail
  refine wp_rename (fun W => Below w.heap.size w W ∧ CfgBox W w.heap.size c s) ⟨bnew (bid w) _, HN.out⟩ ?_
  rintro W ⟨hbw, hbx⟩
  have HB := hid hbw
  have HX := hid hbx
  have HA := hid (amounts_any (sb := sb) c s W (HE.out.below hbw))
  obtain ⟨k0, k1, k2, k3, k4, k5, k6, k7, k8, k9, k10, k11⟩ := cfg_facts hbx
  clear hbw hbx HN
  have q1 : ∀ W : World, (binOp .eql 46 .nilIface .nilIface).run Tryz.prog W = .ok (.bool true) W := run_eql_nils
  cases ha : amountsF c s with
  | some x =>
    rw [ha] at HA HF
    clear ha
    go_wp2_with (first | (go_at_call 18; refine HA.out.mono ?_; rintro e w1 ⟨v, rfl, ht1, hb1⟩; obtain ⟨T1, b1, hv⟩ := Tells.err ht1; subst hv; have HT := hid ht1; have HB1 := hid (bthen HB.out hb1); have q2 := run_eql_nil T1 (.pointer (some b1)); clear ht1 hb1) | (go_at_call 26; refine (placed_any (HE.out.below HB1.out) HT.out _ _).mono ?_; rintro e w2 ⟨v2, rfl, ht2, hb2⟩; have HT2 := hid ht2; have HB2 := hid hb2; clear ht2 hb2))
    go_ret
    exact ⟨_, rfl, (by rw [HF.out]; exact HT2.out), bthen HB1.out HB2.out⟩
  | none =>
    rw [ha] at HA HF
    clear ha
    go_upto_region 3 with (go_at_call 18; refine HA.out.mono ?_; rintro e w1 ⟨v, rfl, ht1, hb1⟩; have hv : v = .nilIface := ht1; subst hv; have HB1 := hid (bthen HB.out hb1); have HX1 := hid (HX.out.below hb1); clear ht1 hb1)
    clear k0 k1 k2 k3 k4 k5 k6 k7 k8 k9 k10 k11
    have HF1 := hid (first_any (w := w1) (HE.out.below HB1.out) s.nl (by omega) (-1) 20 #[.pointer (some ⟨w.heap.size, 0, none⟩)] (lockF c s) (fun _ _ => by simp [go_sem])
      (fun k hk W2 hb2 => ccl1_any w.heap.size c s k W2 (HE.out.below (bthen HB1.out hb2)) (HC.out.below (bthen HB1.out hb2)) (HX1.out.below hb2) hk))
    have m1 := (cfg_facts HX1.out).2.2.2.2.2.2.2.2.2.1
    cases h1 : firstF s.nl 0 (-1) (lockF c s) with
    | some x =>
      rw [h1] at HF1 HF
      clear h1
      go_wp2_with (first | (go_at_call 19; refine HF1.out.mono ?_; rintro e w8 ⟨v, rfl, ht1, hb1⟩; obtain ⟨T1, b1, hv⟩ := Tells.err ht1; subst hv; have HT := hid ht1; have HBP := hid (bthen HB1.out hb1); have q2 := run_eql_nil T1 (.pointer (some b1)); clear ht1 hb1) | (go_at_call 26; refine (placed_any (HE.out.below HBP.out) HT.out _ _).mono ?_; rintro e w9 ⟨v9, rfl, ht9, hb9⟩; have HT9 := hid ht9; have HB9 := hid hb9; clear ht9 hb9))
      go_ret
      exact ⟨_, rfl, (by rw [HF.out]; exact HT9.out), bthen HBP.out HB9.out⟩
    | none =>
      rw [h1] at HF1 HF
      clear h1
      go_upto_region 5 with (go_at_call 19; refine HF1.out.mono ?_; rintro e w2 ⟨v, rfl, ht1, hb1⟩; have hv : v = .nilIface := ht1; subst hv; have HB2 := hid (bthen HB1.out hb1); have HX2 := hid (HX1.out.below hb1); clear ht1 hb1)
      clear m1
      have HF2 := hid (first_any (w := w2) (HE.out.below HB2.out) s.nc (by omega) (-1) 22 #[.pointer (some ⟨w.heap.size, 0, none⟩)] (condF c s) (fun _ _ => by simp [go_sem])
        (fun k hk W2 hb2 => ccl2_any w.heap.size c s k W2 (HE.out.below (bthen HB2.out hb2)) (HC.out.below (bthen HB2.out hb2)) (HX2.out.below hb2) hk))
      have m2 := (cfg_facts HX2.out).2.2.2.2.2.2.2.2.2.2.1
      cases h2 : firstF s.nc 0 (-1) (condF c s) with
      | some x =>
        rw [h2] at HF2 HF
        clear h2
        go_wp2_with (first | (go_at_call 19; refine HF2.out.mono ?_; rintro e w8 ⟨v, rfl, ht1, hb1⟩; obtain ⟨T1, b1, hv⟩ := Tells.err ht1; subst hv; have HT := hid ht1; have HBP := hid (bthen HB2.out hb1); have q2 := run_eql_nil T1 (.pointer (some b1)); clear ht1 hb1) | (go_at_call 26; refine (placed_any (HE.out.below HBP.out) HT.out _ _).mono ?_; rintro e w9 ⟨v9, rfl, ht9, hb9⟩; have HT9 := hid ht9; have HB9 := hid hb9; clear ht9 hb9))
        go_ret
        exact ⟨_, rfl, (by rw [HF.out]; exact HT9.out), bthen HBP.out HB9.out⟩
      | none =>
        rw [h2] at HF2 HF
        clear h2
        go_upto_region 7 with (go_at_call 19; refine HF2.out.mono ?_; rintro e w3 ⟨v, rfl, ht1, hb1⟩; have hv : v = .nilIface := ht1; subst hv; have HB3 := hid (bthen HB2.out hb1); have HX3 := hid (HX2.out.below hb1); clear ht1 hb1)
        clear m2
        have HF3 := hid (first_any (w := w3) (HE.out.below HB3.out) s.np (by omega) (-1) 24 #[.pointer (some ⟨w.heap.size, 0, none⟩)] (progF c s) (fun _ _ => by simp [go_sem])
          (fun k hk W2 hb2 => ccl3_any w.heap.size c s k W2 (HE.out.below (bthen HB3.out hb2)) (HC.out.below (bthen HB3.out hb2)) (HX3.out.below hb2) hk))
        have m3 := (cfg_facts HX3.out).2.2.2.2.2.2.2.2.2.2.2
        generalize firstF s.np 0 (-1) (progF c s) = g3 at HF HF3
        go_wp2_with (first | (go_at_call 19; refine HF3.out.mono ?_; rintro e w8 ⟨v, rfl, ht1, hb1⟩; have HT := hid ht1; have HBP := hid (bthen HB3.out hb1); clear ht1 hb1) | (go_at_call 26; refine (placed_any (HE.out.below HBP.out) HT.out _ _).mono ?_; rintro e w9 ⟨v9, rfl, ht9, hb9⟩; have HT9 := hid ht9; have HB9 := hid hb9; clear ht9 hb9))
        go_ret
        exact ⟨_, rfl, (by rw [HF.out]; exact HT9.out), bthen HBP.out HB9.out⟩

end Go.Proofs.YtblalejegjieaaaGreatDoor
