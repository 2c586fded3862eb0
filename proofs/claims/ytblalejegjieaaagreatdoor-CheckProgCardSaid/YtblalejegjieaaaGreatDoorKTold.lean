/-
  Layer 6's told; a fault that is told, asked for its code, its place, its trail.
-/
import Derived.Test.YtblalejegjieaaaGreatDoorKBuild
namespace Go.Proofs.YtblalejegjieaaaGreatDoor
open Go.RowKit
set_option linter.unusedVariables false

theorem chain2 {w : World} {sb : Nat → Addr} (hs : Sents w sb) {k : Nat} (h1 : 1 ≤ k) (h2 : k ≤ 10) {b : Nat} {t p : Int} (h : AtAt w b t p (errV 149 (sb k))) :
    Chain w [(76, ⟨b, 0, none⟩), (149, sb k)] := by
  refine ⟨by simp, by simp, by simp, fun j hj => ?_, fun j hj => ?_⟩
  · simp only [List.length_cons, List.length_nil] at hj
    obtain rfl : j = 0 := by omega
    exact ⟨b, t, p, rfl, h⟩
  · simp only [List.length_cons, List.length_nil] at hj
    obtain rfl : j = 1 := by omega
    exact ⟨sb k, rfl, hs.err k h1 h2⟩
theorem ends2 (sb : Nat → Addr) (k b : Nat) : EndsAt [(76, ⟨b, 0, none⟩), (149, sb k)] sb k := fun j hj => by
  obtain rfl : j = 1 := by simp at hj; omega
  rfl
theorem Code_tells {w : World} {sb : Nat → Addr} (hE : Errs sb w) {c : Nat} {t p : Int} {v : Value} (h : Tells sb w v (some (c, some (t, p)))) :
    Calls Tryz.prog 12 #[v] w fun e w' => e = .returned (.int .i64 (c : Int)) ∧ Below w.heap.size w w' := by
  obtain ⟨h1, h2, b, rfl, ha⟩ := h
  exact Code_chain (ks := [(76, ⟨b, 0, none⟩), (149, sb c)]) (chain2 hE.sents h1 h2 ha) hE.sents (ends2 sb c b) h1 h2
theorem Where_tells {w : World} {sb : Nat → Addr} (hE : Errs sb w) {c : Nat} {t p : Int} {v : Value} (h : Tells sb w v (some (c, some (t, p)))) :
    Calls Tryz.prog 15 #[v] w fun e w' => e = .returned (.tuple #[.int .i64 t, .int .i64 p, .bool true]) ∧ Below w.heap.size w w' := by
  obtain ⟨h1, h2, b, rfl, ha⟩ := h
  exact Where_at (ks := [(76, ⟨b, 0, none⟩), (149, sb c)]) (chain2 hE.sents h1 h2 ha) hE.et (Nat.lt_succ_self 1) rfl ha

/-- Where the four lists lie does not matter. -/
@[reducible] def cvOf (ni nl nc np : Nat) : CV := ⟨none, ni, 0, none, nl, 0, none, nc, 0, none, np, 0⟩
theorem configF_cv (c : Cfg) (s : CV) : configF c s = configF c (cvOf s.ni s.nl s.nc s.np) := rfl

def k80 : K8 := ⟨0, 0, 0, 0, 0, 0, 0, 0⟩
theorem told_yes : configF (build6 k80 [[2, 3]]) (cvOf 9 3 3 1) = none := by decide +kernel
theorem told_no : configF { build6 k80 [[2, 3]] with progs := [[⟨14, 0, 0, 0, 0⟩]] } (cvOf 9 3 3 1) = some (5, some (0, 0)) := by decide +kernel
theorem told_len : (build6 k80 [[2, 3]]).progs.length = 1 := by decide +kernel

/-- The two rows of told. -/
theorem rows23 (w : World) : RowsRow ((w.alloc (.cells #[.int .i64 2, .int .i64 3] 3)).alloc (.cells #[.slice (some ⟨w.heap.size, 0, none⟩) 2 2] 31)) (some ⟨w.heap.size + 1, 0, none⟩) 1 [[2, 3]] := by
  refine ⟨rfl, .inr ⟨w.heap.size + 1, 0, rfl, by simp, fun k zs hk => ?_⟩⟩
  match k, hk with
  | 0, hk =>
    cases hk
    exact ⟨by decide, some ⟨w.heap.size, 0, none⟩, 2, cell_of_blk (heap_alloc_new1 _ _ _) 0, (IntRow.lit [2, 3] 3 w #[.int .i64 2, .int .i64 3] rfl 2 rfl).below (bnew (bid _) _)⟩
  | k + 1, hk => simp at hk

theorem Build_told (w : World) : Calls Tryz.prog 7 #[.agg #[.int .i64 0, .int .i64 0, .int .i64 0, .int .i64 0, .int .i64 0, .int .i64 0, .int .i64 0, .int .i64 0], .slice (some ⟨w.heap.size + 1, 0, none⟩) 1 1] ((w.alloc (.cells #[.int .i64 2, .int .i64 3] 3)).alloc (.cells #[.slice (some ⟨w.heap.size, 0, none⟩) 2 2] 31)) (BuildRet (build6 k80 [[2, 3]]) ((w.alloc (.cells #[.int .i64 2, .int .i64 3] 3)).alloc (.cells #[.slice (some ⟨w.heap.size, 0, none⟩) 2 2] 31))) :=
  Build_any k80 _ 1 1 [[2, 3]] _ (rows23 w) (by decide)

/-- What Build hands back, counted. -/
theorem Built.nums {B : Nat} {c : Cfg} {s : CV} {zs : List Int} {W : World} (h : Built B c s zs W) : s.nl = c.locks.length ∧ s.nc = c.conds.length ∧ s.np = c.progs.length := ⟨h.lks.cnt.symm, h.cds.1.symm, h.pn⟩

/-- A config in a block of its own, and what it leads to. -/
structure PB (w : World) (q : Nat) (c : Cfg) (s : CV) (W : World) : Prop where
  box : CfgBox W q c s
  built : Built w.heap.size c s (initF 9) W
  q0 : w.heap.size ≤ q
  qne : (Value.slice s.ap s.np s.kp).ownBlock ≠ some q
  below : Below w.heap.size w W
theorem PB.later {w W W' : World} {q : Nat} {c : Cfg} {s : CV} (h : PB w q c s W) (hb : Below W.heap.size W W') : PB w q c s W' :=
  ⟨h.box.below hb, h.built.below hb, h.q0, h.qne, bthen h.below hb⟩
theorem PB.new {w W : World} {c : Cfg} {s : CV} (h : Built w.heap.size c s (initF 9) W) (hb : Below w.heap.size w W) : PB w W.heap.size c s (W.alloc (.cells (c.cs s) 34)) := by
  refine ⟨CfgBox.new W c s, h.below (bnew (bid W) _), hb.size, fun e => ?_, bnew hb _⟩
  have := (h.progs.old e).2
  omega
theorem PB.row1 {w W : World} {q : Nat} {c : Cfg} {s : CV} (h : PB w q c s W) (h1 : c.progs.length = 1) :
    ∃ g, s.ap = some ⟨g, 0, none⟩ ∧ s.np = 1 ∧ (∃ v, W.cell? ⟨g, 0, none⟩ = some v) ∧ W.frozen? ⟨g, 0, none⟩ = false ∧ w.heap.size ≤ g ∧ g < W.heap.size ∧ g ≠ q := by
  have hn : s.np = 1 := h.built.pn.trans h1
  obtain ⟨vs, hr, _⟩ := h.built.progs.ex
  obtain ⟨g, cap, hv, hB, hlt⟩ := hr.form (by omega)
  simp only [Value.slice.injEq] at hv
  obtain ⟨ha, _, hk⟩ := hv
  have hr' := hr
  rw [ha, h.built.pn] at hr'
  have hl : vs.length = 1 := by have := hr.1; omega
  exact ⟨g, ha, hn, ⟨vs[0]'(by omega), (hr'.cellAt 0 (by omega)).trans (List.getElem?_eq_getElem (by omega))⟩, hr'.frozenAt 0, hB, hlt, fun e => h.qne (by rw [ha, e]; rfl)⟩
theorem PB.set {w W : World} {q : Nat} {c : Cfg} {s : CV} (h : PB w q c s W) (h1 : c.progs.length = 1) {g : Nat} (hg : s.ap = some ⟨g, 0, none⟩) {pa : Option Addr} {pc m : Nat} {p : List Ins}
    (hp : InsRow W pa m p) (hpc : m ≤ pc) (hpm : pc ≤ maxLen) (hpn : ∀ y, pa = some y → w.heap.size ≤ y.block ∧ g ≠ y.block) :
    PB w q { c with progs := [p] } s (W.setCell ⟨g, 0, none⟩ (.slice pa m pc)) := by
  have hw : Wrote (fun b => b = g) W (W.setCell ⟨g, 0, none⟩ (.slice pa m pc)) := Wrote.setCell (S := fun b => b = g) (Wrote.refl _ W) (p := ⟨g, 0, none⟩) (fun _ => rfl) _
  have hqg : ¬ q = g := fun e => h.qne (by rw [hg, e]; rfl)
  have hb := h.built.setProg (cap := 0) hg (k := 0) (by omega) hp hpc hpm hpn
  have e : c.progs.set 0 p = [p] := by
    match hc : c.progs, h1 with
    | [x], _ => rfl
  rw [e] at hb
  refine ⟨(hw.block _ (lt_of_block h.box) hqg).trans h.box, hb, h.q0, h.qne, h.below.trans (hw.below h.below.size fun j hj e => ?_)⟩
  have := (h.built.progs.old (g := g) (by rw [hg]; rfl)).1
  omega

set_option maxRecDepth 100000 in
set_option maxHeartbeats 8000000 in
theorem told6_any {sb : Nat → Addr} (w : World) (hE : Errs sb w) : Calls Tryz.prog 6 #[] w fun e w' => e = .returned (.bool true) ∧ Below w.heap.size w w' := by
  have HE := hid hE
  clear hE
  have HBT := hid Build_told
  have HYES := hid told_yes
  have HNO := hid told_no
  have HLEN := hid told_len
  have HL3 : Hid ((build6 k80 [[2, 3]]).locks.length = 3 ∧ (build6 k80 [[2, 3]]).conds.length = 3) := hid (by decide +kernel)
  generalize build6 k80 [[2, 3]] = cc at HBT HYES HNO HLEN HL3
  go_enter Tryz.func6, Tryz.ntmps6
  go_upto_region 2 with (go_at_call 7; go_must (refine (HBT.out _).mono ?_; rintro e w1 ⟨s, rfl, hbt, hni, hb1⟩; have HPB := hid (PB.new (hbt.mono (bnew (bnew (bid w) _) _).size) (bthen (bnew (bnew (bid w) _) _) hb1)); have HNI := hid hni; clear hbt hni hb1))
  obtain ⟨g, hg, hnp, ⟨v, hv⟩, hfz, hg0, hg1, hgq⟩ := HPB.out.row1 HLEN.out
  have HSN := hid (show s.nl = 3 ∧ s.nc = 3 ∧ s.np = 1 from by have h := HPB.out.built.nums; exact ⟨h.1.trans HL3.out.1, h.2.1.trans HL3.out.2, hnp⟩)
  obtain ⟨ai, ni, ki, al, nl, kl, ac, nc, kc, ap, np, kp⟩ := s
  dsimp only at hg hnp
  subst hg hnp
  have HGG := hid (And.intro hg0 (And.intro hg1 hgq))
  refine wp_rename (fun W => PB w w1.heap.size cc ⟨ai, ni, ki, al, nl, kl, ac, nc, kc, some ⟨g, 0, none⟩, 1, kp⟩ W ∧ W.cell? ⟨g, 0, none⟩ = some v ∧ W.frozen? ⟨g, 0, none⟩ = false ∧ g < W.heap.size) ⟨HPB.out, hv, hfz, hg1⟩ ?_
  rintro W2 ⟨hpb, hv2, hf2, hl2⟩
  generalize w1.heap.size = q at HGG hpb ⊢
  have HP2 := hid hpb
  have k11 := (cfg_facts hpb.box).2.2.2.2.2.2.2.2.2.2.2
  have HG2 := hid hl2
  have HIL := hid (InsRow.lit [⟨14, 0, 0, 0, 0⟩] 1 W2 40 #[.int .i64 14, .int .i64 0, .int .i64 0, .int .i64 0, .int .i64 0] rfl rfl)
  clear hpb HPB hv hfz hg0 hg1 hgq
  go_upto_region 3 with fail
  have HPS := hid ((HP2.out.later (bnew (bid _) (.cells #[.int .i64 14, .int .i64 0, .int .i64 0, .int .i64 0, .int .i64 0] 40))).set HLEN.out (g := g) rfl (pc := 1) HIL.out (Nat.le_refl _) (by unfold maxLen; omega) (fun y hy => by cases hy; exact ⟨HP2.out.below.size, fun e => by have := HG2.out; dsimp only at e; omega⟩))
  refine wp_rename (fun W => PB w q { cc with progs := [[⟨14, 0, 0, 0, 0⟩]] } ⟨ai, ni, ki, al, nl, kl, ac, nc, kc, some ⟨g, 0, none⟩, 1, kp⟩ W) (by rw [← World.setCell_alloc_past _ _ _ _ HG2.out]; exact HPS.out) ?_
  intro W3 hpb
  have HP3 := hid hpb
  obtain ⟨k0, k1, k2, k3, k4, k5, k6, k7, k8, k9, k10, k11'⟩ := cfg_facts hpb.box
  clear hpb k11 hv2 hf2 hl2 HIL HPS
  have HCV := hid (configF_cv { cc with progs := [[⟨14, 0, 0, 0, 0⟩]] } ⟨ai, ni, ki, al, nl, kl, ac, nc, kc, some ⟨g, 0, none⟩, 1, kp⟩)
  have HNN := hid (show configF { cc with progs := [[⟨14, 0, 0, 0, 0⟩]] } ⟨ai, ni, ki, al, nl, kl, ac, nc, kc, some ⟨g, 0, none⟩, 1, kp⟩ = some (5, some (0, 0)) by
    rw [HCV.out]
    dsimp only
    have h1 : ni = 9 := HNI.out
    have h2 : nl = 3 := HSN.out.1
    have h3 : nc = 3 := HSN.out.2.1
    rw [h1, h2, h3]
    exact HNO.out)
  have HCF := hid (Config_any (sb := sb) { cc with progs := [[⟨14, 0, 0, 0, 0⟩]] } ⟨ai, ni, ki, al, nl, kl, ac, nc, kc, some ⟨g, 0, none⟩, 1, kp⟩ W3 (HE.out.below HP3.out.below) HP3.out.built.cfgIn)
  rw [HNN.out] at HCF
  go_upto_region 4 with (go_at_call 11; go_must (refine HCF.out.mono ?_; rintro e w4 ⟨v4, rfl, ht, hb4⟩; obtain ⟨T4, b4, hv4⟩ := Tells.err ht; subst hv4; have HT := hid ht; have HB4 := hid (bthen HP3.out.below hb4); have q4 := run_neq_err T4 (.pointer (some b4)); clear ht hb4))
  go_wp2_with (first | (go_at_call 12; go_must (refine (Code_tells (HE.out.below HB4.out) HT.out).mono ?_; rintro e w5 ⟨rfl, hb5⟩; have HB5 := hid (bthen HB4.out hb5); clear hb5)) | (go_at_call 7; go_must (refine (HBT.out _).mono ?_; rintro e w6 ⟨s6, rfl, hbt, hni, hb6⟩; have HBU := hid hbt; have HNI6 := hid hni; have HB6 := hid (bthen (bnew (bnew HB5.out _) _) hb6); clear hbt hni hb6)) | (go_at_call 11; go_must (have hcf := Config_any (sb := sb) cc s6 w6 (HE.out.below HB6.out) HBU.out.cfgIn; rw [show configF cc s6 = none by rw [configF_cv, HNI6.out, HBU.out.nums.1, HBU.out.nums.2.1, HBU.out.nums.2.2, HL3.out.1, HL3.out.2, HLEN.out]; exact HYES.out] at hcf; refine hcf.mono ?_; rintro e w7 ⟨v7, rfl, ht7, hb7⟩; have hv7 : v7 = .nilIface := ht7; subst hv7; have HB7 := hid (bthen HB6.out hb7); clear ht7 hb7 hcf; have q7 := run_eql_nils)))
  go_ret
  exact ⟨rfl, HB7.out⟩

end Go.Proofs.YtblalejegjieaaaGreatDoor
