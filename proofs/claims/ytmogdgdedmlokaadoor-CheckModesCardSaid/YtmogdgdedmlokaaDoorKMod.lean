/-
  CheckModes: what is asked of the runs' beginning, plain.
-/
import Derived.Test.YtmogdgdedmlokaaDoorKOrd
namespace Go.Proofs.YtmogdgdedmlokaaDoor
open Go.RowKit
set_option linter.unusedVariables false

def modOps : List Ins := [⟨9, 2, 0, 0, 6⟩, ⟨10, 0, 0, 0, 6⟩, ⟨11, 0, 0, 0, 6⟩, ⟨16, 2, 0, 0, 0⟩, ⟨17, 2, 0, 0, 0⟩, ⟨15, 2, 0, 0, 0⟩]
def prM (i : Ins) : List Ins := [⟨13, 2, 1, 0, 0⟩, i, ⟨14, 0, 0, 0, 0⟩]
def prN (i : Ins) : List Ins := secL 2 [i]
def prW (l : Int) : List Ins := secL 0 (secL 1 [⟨15, l, 0, 0, 0⟩])
def prT (l : Int) : List Ins := secL l [⟨15, l, 0, 0, 0⟩, ⟨15, (l + 1) % 3, 0, 0, 0⟩]
theorem mod_read : ∀ k : Fin 6, configF { build6 k80 [[]] with progs := [prM (modOps[k.1]'(by simp [modOps]))] } (cvOf 9 3 3 1) = some (7, some (0, 1)) := by decide +kernel
theorem mod_sec : ∀ k : Fin 6, configF { build6 k80 [[]] with progs := [prN (modOps[k.1]'(by simp [modOps]))] } (cvOf 9 3 3 1) = none := by decide +kernel
theorem mod_wait : ∀ l : Fin 3, configF { build6 k80 [[]] with progs := [prW l.1] } (cvOf 9 3 3 1) = some (6, some (0, 2)) := by decide +kernel
theorem mod_wait2 : ∀ l : Fin 3, configF { build6 k80 [[]] with progs := [prT l.1] } (cvOf 9 3 3 1) = some (6, some (0, 2)) := by decide +kernel

/-- The four answers, at an instruction of the six and a lock of the three. -/
theorem mod_all (k : Nat) (hk : k < 6) (l : Int) (l0 : 0 ≤ l) (l1 : l < 3) :
    configF { build6 k80 [[]] with progs := [prM (modOps[k]'(by simpa [modOps] using hk))] } (cvOf 9 3 3 1) = some (7, some (0, 1)) ∧
    configF { build6 k80 [[]] with progs := [prN (modOps[k]'(by simpa [modOps] using hk))] } (cvOf 9 3 3 1) = none ∧
    configF { build6 k80 [[]] with progs := [prW l] } (cvOf 9 3 3 1) = some (6, some (0, 2)) ∧
    configF { build6 k80 [[]] with progs := [prT l] } (cvOf 9 3 3 1) = some (6, some (0, 2)) := by
  obtain ⟨x, rfl⟩ : ∃ x : Fin 3, l = (x.1 : Int) := ⟨⟨l.toNat, by omega⟩, (Int.toNat_of_nonneg l0).symm⟩
  exact ⟨mod_read ⟨k, hk⟩, mod_sec ⟨k, hk⟩, mod_wait x, mod_wait2 x⟩

/-- A config in a block of its own and what it leads to, all from block B on: nothing is said of the world that it began in. -/
structure PC (B q : Nat) (c : Cfg) (s : CV) (W : World) : Prop where
  box : CfgBox W q c s
  built : Built B c s (initF 9) W
  q0 : B ≤ q
  qne : (Value.slice s.ap s.np s.kp).ownBlock ≠ some q
theorem PB.pc {w W : World} {q : Nat} {c : Cfg} {s : CV} (h : PB w q c s W) : PC w.heap.size q c s W := ⟨h.box, h.built, h.q0, h.qne⟩
theorem PC.later {B q : Nat} {W W' : World} {c : Cfg} {s : CV} (h : PC B q c s W) (hb : Below W.heap.size W W') : PC B q c s W' :=
  ⟨h.box.below hb, h.built.below hb, h.q0, h.qne⟩
theorem PC.far {B q : Nat} {W W' : World} {c : Cfg} {s : CV} {S : Nat → Prop} (h : PC B q c s W) (hw : Wrote S W W') (hs : ∀ x, B ≤ x → ¬ S x) : PC B q c s W' :=
  ⟨(hw.block _ (lt_of_block h.box) (hs q h.q0)).trans h.box, h.built.far hw hs, h.q0, h.qne⟩
theorem PC.row1 {B q : Nat} {W : World} {c : Cfg} {s : CV} (h : PC B q c s W) (h1 : c.progs.length = 1) :
    ∃ g, s.ap = some ⟨g, 0, none⟩ ∧ s.np = 1 ∧ (∃ v, W.cell? ⟨g, 0, none⟩ = some v) ∧ W.frozen? ⟨g, 0, none⟩ = false ∧ B ≤ g ∧ g < W.heap.size ∧ g ≠ q := by
  have hn : s.np = 1 := h.built.pn.trans h1
  obtain ⟨vs, hr, _⟩ := h.built.progs.ex
  obtain ⟨g, cap, hv, hB, hlt⟩ := hr.form (by omega)
  simp only [Value.slice.injEq] at hv
  obtain ⟨ha, _, hk⟩ := hv
  have hr' := hr
  rw [ha, h.built.pn] at hr'
  have hl : vs.length = 1 := by have := hr.1; omega
  exact ⟨g, ha, hn, ⟨vs[0]'(by omega), (hr'.cellAt 0 (by omega)).trans (List.getElem?_eq_getElem (by omega))⟩, hr'.frozenAt 0, hB, hlt, fun e => h.qne (by rw [ha, e]; rfl)⟩
theorem PC.set {B q : Nat} {W : World} {c : Cfg} {s : CV} (h : PC B q c s W) (h1 : c.progs.length = 1) {g : Nat} (hg : s.ap = some ⟨g, 0, none⟩) {pa : Option Addr} {pc m : Nat} {p : List Ins}
    (hp : InsRow W pa m p) (hpc : m ≤ pc) (hpm : pc ≤ maxLen) (hpn : ∀ y, pa = some y → B ≤ y.block ∧ g ≠ y.block) :
    PC B q { c with progs := [p] } s (W.setCell ⟨g, 0, none⟩ (.slice pa m pc)) := by
  have hw : Wrote (fun b => b = g) W (W.setCell ⟨g, 0, none⟩ (.slice pa m pc)) := Wrote.setCell (S := fun b => b = g) (Wrote.refl _ W) (p := ⟨g, 0, none⟩) (fun _ => rfl) _
  have hqg : ¬ q = g := fun e => h.qne (by rw [hg, e]; rfl)
  have hb := h.built.setProg (cap := 0) hg (k := 0) (by omega) hp hpc hpm hpn
  have e : c.progs.set 0 p = [p] := by
    match hc : c.progs, h1 with
    | [x], _ => rfl
  rw [e] at hb
  exact ⟨(hw.block _ (lt_of_block h.box) hqg).trans h.box, hb, h.q0, h.qne⟩

/-- CheckModes between two of its statements: c's box and rows, in's cells. -/
structure ModInv (w : World) (pi q : Nat) (c : Cfg) (s : CV) (vs : Array Value) (W : World) : Prop where
  below : Below w.heap.size w W
  pc : PC (pi + 1) q c s W
  cells : ∀ j, W.cell? ⟨pi, j, none⟩ = vs[j]?
  free : ∀ j, W.frozen? ⟨pi, j, none⟩ = false
  lt : pi < W.heap.size
theorem ModInv.later {w : World} {pi q : Nat} {c : Cfg} {s : CV} {vs : Array Value} {W W' : World} (h : ModInv w pi q c s vs W) (hb : Below W.heap.size W W') : ModInv w pi q c s vs W' :=
  ⟨bthen h.below hb, h.pc.later hb, fun j => (hb.cell (p := ⟨pi, j, none⟩) h.lt).trans (h.cells j), fun j => (hb.frozen (p := ⟨pi, j, none⟩) h.lt).trans (h.free j), Nat.lt_of_lt_of_le h.lt hb.size⟩
theorem ModInv.set {w : World} {pi q : Nat} {c : Cfg} {s : CV} {vs : Array Value} {W : World} (h : ModInv w pi q c s vs W) (hw0 : w.heap.size ≤ pi) (h1 : c.progs.length = 1) {g : Nat} (hg : s.ap = some ⟨g, 0, none⟩) {pa : Option Addr} {pc m : Nat} {p : List Ins}
    (hp : InsRow W pa m p) (hpc : m ≤ pc) (hpm : pc ≤ maxLen) (hpn : ∀ y, pa = some y → pi + 1 ≤ y.block ∧ g ≠ y.block) :
    ModInv w pi q { c with progs := [p] } s vs (W.setCell ⟨g, 0, none⟩ (.slice pa m pc)) := by
  have hw : Wrote (fun b => b = g) W (W.setCell ⟨g, 0, none⟩ (.slice pa m pc)) := Wrote.setCell (S := fun b => b = g) (Wrote.refl _ W) (p := ⟨g, 0, none⟩) (fun _ => rfl) _
  have hgp : pi + 1 ≤ g := (h.pc.built.progs.old (g := g) (by rw [hg]; rfl)).1
  have hb := hw.block pi h.lt (fun e => by omega)
  refine ⟨h.below.trans (hw.below h.below.size fun j hj e => by omega), h.pc.set h1 hg hp hpc hpm hpn, fun j => (World.cell?_of_block (a := ⟨pi, j, none⟩) hb).trans (h.cells j), fun j => (World.frozen?_of_block (a := ⟨pi, j, none⟩) hb).trans (h.free j), by simpa using h.lt⟩

/-- The same, where in's cells are of no matter any more. -/
structure NInv (w : World) (B q : Nat) (c : Cfg) (s : CV) (W : World) : Prop where
  below : Below w.heap.size w W
  pc : PC B q c s W
theorem NInv.later {w : World} {B q : Nat} {c : Cfg} {s : CV} {W W' : World} (h : NInv w B q c s W) (hb : Below W.heap.size W W') : NInv w B q c s W' := ⟨bthen h.below hb, h.pc.later hb⟩
theorem NInv.set {w : World} {B q : Nat} {c : Cfg} {s : CV} {W : World} (h : NInv w B q c s W) (hw0 : w.heap.size ≤ B) (h1 : c.progs.length = 1) {g : Nat} (hg : s.ap = some ⟨g, 0, none⟩) {pa : Option Addr} {pc m : Nat} {p : List Ins}
    (hp : InsRow W pa m p) (hpc : m ≤ pc) (hpm : pc ≤ maxLen) (hpn : ∀ y, pa = some y → B ≤ y.block ∧ g ≠ y.block) :
    NInv w B q { c with progs := [p] } s (W.setCell ⟨g, 0, none⟩ (.slice pa m pc)) := by
  have hw : Wrote (fun b => b = g) W (W.setCell ⟨g, 0, none⟩ (.slice pa m pc)) := Wrote.setCell (S := fun b => b = g) (Wrote.refl _ W) (p := ⟨g, 0, none⟩) (fun _ => rfl) _
  have hgp : B ≤ g := (h.pc.built.progs.old (g := g) (by rw [hg]; rfl)).1
  exact ⟨h.below.trans (hw.below h.below.size fun j hj e => by omega), h.pc.set h1 hg hp hpc hpm hpn⟩
theorem ModInv.put {w : World} {pi q : Nat} {c : Cfg} {s : CV} {vs : Array Value} {W : World} (h : ModInv w pi q c s vs W) (hw0 : w.heap.size ≤ pi) (j : Nat) (v : Value) : NInv w (pi + 1) q c s (W.setCell ⟨pi, j, none⟩ v) := by
  have hw : Wrote (fun b => b = pi) W (W.setCell ⟨pi, j, none⟩ v) := Wrote.setCell (S := fun b => b = pi) (Wrote.refl _ W) (p := ⟨pi, j, none⟩) (fun _ => rfl) _
  exact ⟨h.below.trans (hw.below h.below.size fun j hj e => by omega), h.pc.far hw fun x hx e => by omega⟩

set_option maxRecDepth 100000 in
set_option maxHeartbeats 8000000 in
theorem modes_any {sb : Nat → Addr} (a b : Int) (w : World) (hE : Errs sb w) :
    Calls Tryd.prog 5 #[.int .i64 a, .int .i64 b] w fun e w' => e = .returned (.bool true) ∧ Below w.heap.size w w' := by
  have HE := hid hE
  clear hE
  have HPa := hid (fun W => pick6_any a 6 W (by decide) (by decide))
  have HPb := hid (fun W => pick6_any b 3 W (by decide) (by decide))
  obtain ⟨a0, a1⟩ := pickF_in (x := a) (n := 6) (by decide)
  obtain ⟨b0, b1⟩ := pickF_in (x := b) (n := 3) (by decide)
  generalize pickF a 6 = x at HPa a0 a1
  generalize pickF b 3 = l at HPb b0 b1
  obtain ⟨k, rfl⟩ : ∃ k : Nat, x = (k : Int) := ⟨x.toNat, (Int.toNat_of_nonneg a0).symm⟩
  have hk : k < 6 := by omega
  have HM := hid (mod_all k hk l b0 b1)
  obtain ⟨i, hi⟩ : ∃ i, modOps[k]? = some i := ⟨_, List.getElem?_eq_getElem (by simpa [modOps] using hk)⟩
  have HOP := hid (insCells_at modOps k i hi)
  rw [show modOps[k]'(by simpa [modOps] using hk) = i from by rw [List.getElem?_eq_getElem (by simpa [modOps] using hk)] at hi; exact Option.some.inj hi] at HM
  have HBT := hid Build_e
  have HLEN := hid len_e
  generalize build6 k80 [[]] = cc at HBT HM HLEN
  obtain ⟨io, ia, ib, ic, im⟩ := i
  go_enter Tryd.func5, Tryd.ntmps5
  go_upto_region 3 with (first | (go_at_call 16; (with_reducible refine (HPb.out _).mono ?_); rintro e w1 ⟨rfl, rfl⟩) | (go_at_call 19; (with_reducible refine (st_any 2 6 _).mono ?_); rintro e w1 ⟨rfl, hb1⟩; have HB1 := hid hb1; clear hb1))
  have hcl : ∀ j, (w1.alloc (.cells (insCells modOps).toArray 47)).cell? ⟨w1.heap.size, j, none⟩ = (insCells modOps)[j]? := fun j => (cell_of_blk (heap_alloc_new _ _) j).trans (by simp)
  refine wp_rename (fun W => Below w.heap.size w W ∧ W.cell? ⟨w1.heap.size, k * 5, none⟩ = some (.int .i64 io) ∧ W.cell? ⟨w1.heap.size, k * 5 + 1, none⟩ = some (.int .i64 ia) ∧ W.cell? ⟨w1.heap.size, k * 5 + 2, none⟩ = some (.int .i64 ib) ∧ W.cell? ⟨w1.heap.size, k * 5 + 3, none⟩ = some (.int .i64 ic) ∧ W.cell? ⟨w1.heap.size, k * 5 + 4, none⟩ = some (.int .i64 im)) ⟨bnew HB1.out _, (hcl _).trans HOP.out.1, (hcl _).trans HOP.out.2.1, (hcl _).trans HOP.out.2.2.1, (hcl _).trans HOP.out.2.2.2.1, (hcl _).trans HOP.out.2.2.2.2⟩ ?_
  clear hcl HOP HB1 hi
  generalize w1.heap.size = q0
  rintro W1 ⟨hb1, c0, c1, c2, c3, c4⟩
  have HB1 := hid hb1
  clear hb1
  go_upto_region 4 with (go_at_call 16; (with_reducible refine (HPa.out _).mono ?_); rintro e w2 ⟨rfl, rfl⟩)
  clear c0 c1 c2 c3 c4
  go_upto_region 5 with (go_at_call 12; go_must ((with_reducible refine (HBT.out (W1.alloc (.cells #[.int .i64 io, .int .i64 ia, .int .i64 ib, .int .i64 ic, .int .i64 im] 47)) (W1.heap.size + 1) (by simp)).mono ?_); rintro e w3 ⟨s, rfl, hbt, hni, hb1⟩; have HPB := hid (PB.new (w := W1.alloc (.cells #[.int .i64 io, .int .i64 ia, .int .i64 ib, .int .i64 ic, .int .i64 im] 47)) (hbt.mono (bnew (bnew (bid _) _) _).size) (bthen (bnew (bnew (bid _) _) _) hb1)); have HNI := hid hni; clear hbt hni hb1))
  obtain ⟨g, hg, hnp, -, -, -, -, -⟩ := HPB.out.row1 HLEN.out.1
  have HSN := hid (show s.nl = 3 ∧ s.nc = 3 from by have h := HPB.out.built.nums; exact ⟨h.1.trans HLEN.out.2.1, h.2.1.trans HLEN.out.2.2⟩)
  obtain ⟨ai, ni, ki, al, nl, kl, ac, nc, kc, ap, np, kp⟩ := s
  dsimp only at hg hnp
  subst hg hnp
  have hin : ∀ j, (W1.alloc (.cells #[.int .i64 io, .int .i64 ia, .int .i64 ib, .int .i64 ic, .int .i64 im] 47)).cell? ⟨W1.heap.size, j, none⟩ = #[Value.int .i64 io, .int .i64 ia, .int .i64 ib, .int .i64 ic, .int .i64 im][j]? := fun j => cell_of_blk (heap_alloc_new _ _) j
  have hif : ∀ j, (W1.alloc (.cells #[.int .i64 io, .int .i64 ia, .int .i64 ib, .int .i64 ic, .int .i64 im] 47)).frozen? ⟨W1.heap.size, j, none⟩ = false := fun j => frozen_of_blk (heap_alloc_new _ _) j
  have hsz : (W1.alloc (.cells #[.int .i64 io, .int .i64 ia, .int .i64 ib, .int .i64 ic, .int .i64 im] 47)).heap.size = W1.heap.size + 1 := by simp
  have hpb := HPB.out
  refine wp_rename (fun W => Below w.heap.size w W ∧ PC (W1.heap.size + 1) w3.heap.size cc ⟨ai, ni, ki, al, nl, kl, ac, nc, kc, some ⟨g, 0, none⟩, 1, kp⟩ W ∧ (∀ j, W.cell? ⟨W1.heap.size, j, none⟩ = #[Value.int .i64 io, .int .i64 ia, .int .i64 ib, .int .i64 ic, .int .i64 im][j]?) ∧ (∀ j, W.frozen? ⟨W1.heap.size, j, none⟩ = false) ∧ W1.heap.size < W.heap.size) ⟨bthen (bnew HB1.out _) hpb.below, hsz ▸ hpb.pc, fun j => (hpb.below.cell (p := ⟨W1.heap.size, j, none⟩) (by simp)).trans (hin j), fun j => (hpb.below.frozen (p := ⟨W1.heap.size, j, none⟩) (by simp)).trans (hif j), Nat.lt_of_lt_of_le (show W1.heap.size < (W1.alloc (.cells #[.int .i64 io, .int .i64 ia, .int .i64 ib, .int .i64 ic, .int .i64 im] 47)).heap.size by simp) hpb.below.size⟩ ?_
  clear hpb hin hif hsz HPB HBT HPa HPb
  have HW1 := hid HB1.out.size
  clear HB1
  generalize w3.heap.size = q
  generalize W1.heap.size = pi at HW1
  rintro W2 ⟨hb2, hpc2, hin2, hif2, hpi2⟩
  obtain ⟨g', hg', _, ⟨v2, hv2⟩, hf2, hg0, hl2, hgq⟩ := hpc2.row1 HLEN.out.1
  cases hg'
  have HG := hid (And.intro hg0 hgq)
  have HB2 := hid hb2
  have HP2 := hid hpc2
  have HI2 := hid (And.intro hin2 (And.intro hif2 (And.intro hpi2 hl2)))
  have k11 := (cfg_facts hpc2.box).2.2.2.2.2.2.2.2.2.2.2
  have c0 := hin2 0
  have c1 := hin2 1
  have c2 := hin2 2
  have c3 := hin2 3
  have c4 := hin2 4
  simp only [List.getElem?_toArray, List.getElem?_cons_zero, List.getElem?_cons_succ] at c0 c1 c2 c3 c4
  have HIL := hid (InsRow.lit (prM ⟨io, ia, ib, ic, im⟩) 3 W2 47 #[.int .i64 13, .int .i64 2, .int .i64 1, .int .i64 0, .int .i64 0, .int .i64 io, .int .i64 ia, .int .i64 ib, .int .i64 ic, .int .i64 im, .int .i64 14, .int .i64 0, .int .i64 0, .int .i64 0, .int .i64 0] rfl rfl)
  clear hb2 hpc2 hin2 hif2 hpi2 hg0 hgq
  go_upto_region 6 with fail
  have HMI := hid ((show ModInv w pi q cc ⟨ai, ni, ki, al, nl, kl, ac, nc, kc, some ⟨g, 0, none⟩, 1, kp⟩ #[Value.int .i64 io, .int .i64 ia, .int .i64 ib, .int .i64 ic, .int .i64 im] W2 from ⟨HB2.out, HP2.out, HI2.out.1, HI2.out.2.1, HI2.out.2.2.1⟩).later (bnew (bid _) (.cells #[.int .i64 13, .int .i64 2, .int .i64 1, .int .i64 0, .int .i64 0, .int .i64 io, .int .i64 ia, .int .i64 ib, .int .i64 ic, .int .i64 im, .int .i64 14, .int .i64 0, .int .i64 0, .int .i64 0, .int .i64 0] 47)))
  have HPS := hid (HMI.out.set HW1.out HLEN.out.1 (g := g) rfl (pc := 3) HIL.out (Nat.le_refl _) (by unfold maxLen; omega) (fun y hy => by cases hy; exact ⟨by have h1 := HI2.out.2.2.1; dsimp only; omega, fun e => by have := HI2.out.2.2.2; dsimp only at e; omega⟩))
  refine wp_rename (fun W => ModInv w pi q { cc with progs := [prM ⟨io, ia, ib, ic, im⟩] } ⟨ai, ni, ki, al, nl, kl, ac, nc, kc, some ⟨g, 0, none⟩, 1, kp⟩ #[Value.int .i64 io, .int .i64 ia, .int .i64 ib, .int .i64 ic, .int .i64 im] W) (by rw [← World.setCell_alloc_past _ _ _ _ HI2.out.2.2.2]; exact HPS.out) ?_
  clear HPS HMI HIL HI2 HP2 HB2 hv2 hf2 hl2 k11 c0 c1 c2 c3 c4
  intro W3 hm3
  have HM3 := hid hm3
  obtain ⟨k0, k1, k2, k3, k4, k5, k6, k7, k8, k9, k10, k11⟩ := cfg_facts hm3.pc.box
  clear hm3
  have HCV := hid (fun (c : Cfg) => show configF c ⟨ai, ni, ki, al, nl, kl, ac, nc, kc, some ⟨g, 0, none⟩, 1, kp⟩ = configF c (cvOf 9 3 3 1) by
    rw [configF_cv]
    dsimp only
    have h1 : ni = 9 := HNI.out
    have h2 : nl = 3 := HSN.out.1
    have h3 : nc = 3 := HSN.out.2
    rw [h1, h2, h3])
  have q0 := run_eql_nils
  have q1 := run_neq_nils
  have HCF := hid (Config_any (sb := sb) { cc with progs := [prM ⟨io, ia, ib, ic, im⟩] } ⟨ai, ni, ki, al, nl, kl, ac, nc, kc, some ⟨g, 0, none⟩, 1, kp⟩ W3 (HE.out.below HM3.out.below) HM3.out.pc.built.cfgIn)
  rw [HCV.out, HM.out.1] at HCF
  go_upto_region 9 with (first | (go_at_call 15; go_must (refine HCF.out.mono ?_; rintro e w4 ⟨v4, rfl, ht, hb4⟩; obtain ⟨T4, b4, hv4⟩ := Tells.err ht; subst hv4; have HT := hid ht; have HD4 := hid hb4; have q4 := run_neq_err T4 (.pointer (some b4)); have q5 := run_eql_nil T4 (.pointer (some b4)); clear ht hb4)) | (go_at_call 18; go_must (refine (Code_tells (HE.out.below (bthen HM3.out.below HD4.out)) HT.out).mono ?_; rintro e w5 ⟨rfl, hb5⟩; have HD5 := hid (bthen HD4.out hb5); clear hb5)))
  have HM5 := hid (HM3.out.later HD5.out)
  clear HCF HT HD4 HD5 HM3 k0 k1 k2 k3 k4 k5 k6 k7 k8 k9 k10 k11
  obtain ⟨g', hg', _, ⟨v5, hv5⟩, hf5, hg5, hl5, _⟩ := HM5.out.pc.row1 rfl
  cases hg'
  have HV5 := hid (And.intro hv5 (And.intro hf5 hl5))
  have HK5 := hid (show w5.cell? ⟨q, 11, none⟩ = some (.slice (some ⟨g, 0, none⟩) 1 kp) ∧ w5.cell? ⟨pi, 0, none⟩ = some (.int .i64 io) ∧ w5.cell? ⟨pi, 1, none⟩ = some (.int .i64 ia) ∧ w5.cell? ⟨pi, 2, none⟩ = some (.int .i64 ib) ∧ w5.cell? ⟨pi, 3, none⟩ = some (.int .i64 ic) ∧ w5.cell? ⟨pi, 4, none⟩ = some (.int .i64 im) from ⟨(cfg_facts HM5.out.pc.box).2.2.2.2.2.2.2.2.2.2.2, HM5.out.cells 0, HM5.out.cells 1, HM5.out.cells 2, HM5.out.cells 3, HM5.out.cells 4⟩)
  have HKB := hid (fun (W' : World) (hb : Below w5.heap.size w5 W') => show W'.cell? ⟨q, 11, none⟩ = some (.slice (some ⟨g, 0, none⟩) 1 kp) ∧ W'.cell? ⟨pi, 0, none⟩ = some (.int .i64 io) ∧ W'.cell? ⟨pi, 1, none⟩ = some (.int .i64 ia) ∧ W'.cell? ⟨pi, 2, none⟩ = some (.int .i64 ib) ∧ W'.cell? ⟨pi, 3, none⟩ = some (.int .i64 ic) ∧ W'.cell? ⟨pi, 4, none⟩ = some (.int .i64 im) from
    have kp : ∀ {a : Addr} {v : Value}, w5.cell? a = some v → W'.cell? a = some v := fun {a v} h => (hb.cell (World.block_lt_of_cell? _ _ h)).trans h
    ⟨kp HK5.out.1, kp HK5.out.2.1, kp HK5.out.2.2.1, kp HK5.out.2.2.2.1, kp HK5.out.2.2.2.2.1, kp HK5.out.2.2.2.2.2⟩)
  have HKS := hid (fun (W' : World) (v : Value) (hb : Below w5.heap.size w5 W') => show (W'.setCell ⟨g, 0, none⟩ v).cell? ⟨q, 11, none⟩ = some (.slice (some ⟨g, 0, none⟩) 1 kp) ∧ (W'.setCell ⟨g, 0, none⟩ v).cell? ⟨pi, 0, none⟩ = some (.int .i64 io) ∧ (W'.setCell ⟨g, 0, none⟩ v).cell? ⟨pi, 1, none⟩ = some (.int .i64 ia) ∧ (W'.setCell ⟨g, 0, none⟩ v).cell? ⟨pi, 2, none⟩ = some (.int .i64 ib) ∧ (W'.setCell ⟨g, 0, none⟩ v).cell? ⟨pi, 3, none⟩ = some (.int .i64 ic) ∧ (W'.setCell ⟨g, 0, none⟩ v).cell? ⟨pi, 4, none⟩ = some (.int .i64 im) from
    have hp : pi ≠ g := fun e => by omega
    have hw : Wrote (fun b => b = g) W' (W'.setCell ⟨g, 0, none⟩ v) := Wrote.setCell (S := fun b => b = g) (Wrote.refl _ W') (p := ⟨g, 0, none⟩) (fun _ => rfl) _
    have kp : ∀ {a : Addr} {v' : Value}, a.block ≠ g → W'.cell? a = some v' → (W'.setCell ⟨g, 0, none⟩ v).cell? a = some v' := fun {a v'} hne h => (World.cell?_of_block (hw.block _ (World.block_lt_of_cell? _ _ h) hne)).trans h
    have h := HKB.out W' hb
    ⟨kp (fun e => HG.out.2 e.symm) h.1, kp hp h.2.1, kp hp h.2.2.1, kp hp h.2.2.2.1, kp hp h.2.2.2.2.1, kp hp h.2.2.2.2.2⟩)
  have HSn := hid (fun (W : World) (n : Nat) (hn : W.heap.size = n) => show Calls Tryd.prog 17 #[.int .i64 2, .slice (some ⟨n, 0, none⟩) 1 1] (W.alloc (.cells #[Value.int .i64 io, .int .i64 ia, .int .i64 ib, .int .i64 ic, .int .i64 im] 47)) (InsRet (secL 2 [⟨io, ia, ib, ic, im⟩]) (W.alloc (.cells #[Value.int .i64 io, .int .i64 ia, .int .i64 ib, .int .i64 ic, .int .i64 im] 47))) from
    section_any 2 (some ⟨n, 0, none⟩) 1 1 [⟨io, ia, ib, ic, im⟩] _ (by subst hn; exact InsRow.lit [⟨io, ia, ib, ic, im⟩] 1 W 47 _ rfl rfl) (fun e => by cases e) (by decide))
  clear HK5 hv5 hf5 hg5 hl5
  go_region_held3 (fun w' => w'.cell? ⟨q, 11, none⟩ = some (.slice (some ⟨g, 0, none⟩) 1 kp) ∧ w'.cell? ⟨pi, 0, none⟩ = some (.int .i64 io) ∧ w'.cell? ⟨pi, 1, none⟩ = some (.int .i64 ia) ∧ w'.cell? ⟨pi, 2, none⟩ = some (.int .i64 ib) ∧ w'.cell? ⟨pi, 3, none⟩ = some (.int .i64 ic) ∧ w'.cell? ⟨pi, 4, none⟩ = some (.int .i64 im)) (first | exact HKS.out _ _ HB9.out | exact HKB.out _ HB9.out | exact HKB.out _ (bnew (bdrew (bid _)) _) | exact HKB.out _ (bdrew (bid _)))
    ((go_at_call 17; refine (HSn.out w5.drew _ rfl).mono ?_; rintro e u1 ⟨v1, rfl, ho1, hb1⟩; obtain ⟨g9, c9, rfl, hg9, _, hr9, hc9, hm9⟩ := ho1.form (n := 3) rfl (by decide); have HR9 := hid hr9; have HC9 := hid (And.intro hc9 hm9); have HB9 := hid (bthen (bnew (bdrew (bid w5)) _) hb1); have HG9 := hid (show w5.heap.size ≤ g9 from by have h : (w5.drew.alloc (.cells #[Value.int .i64 io, .int .i64 ia, .int .i64 ib, .int .i64 ic, .int .i64 im] 47)).heap.size ≤ g9 := hg9; exact Nat.le_trans (bnew (bdrew (bid w5)) _).size h); obtain ⟨hk4, hk5⟩ := keeps HB9.out HV5.out.1 HV5.out.2.1; clear ho1 hb1 hr9 hc9 hm9 hg9))
  go_upto_region 10 with fail
  have HMS := hid ((HM5.out.later HB9.out).set HW1.out rfl (g := g) rfl HR9.out HC9.out.1 HC9.out.2 (fun y hy => by cases hy; exact ⟨Nat.le_trans HM5.out.lt HG9.out, fun e => by have h1 := HV5.out.2.2; have h2 := HG9.out; dsimp only at e; omega⟩))
  refine wp_rename (fun W => ModInv w pi q { cc with progs := [prN ⟨io, ia, ib, ic, im⟩] } ⟨ai, ni, ki, al, nl, kl, ac, nc, kc, some ⟨g, 0, none⟩, 1, kp⟩ #[Value.int .i64 io, .int .i64 ia, .int .i64 ib, .int .i64 ic, .int .i64 im] W) HMS.out ?_
  clear HMS HR9 HC9 HB9 HG9 hk4 hk5 HKB HKS HSn HM5 HV5
  intro W6 hm6
  have HM6 := hid hm6
  obtain ⟨k0, k1, k2, k3, k4, k5, k6, k7, k8, k9, k10, k11⟩ := cfg_facts hm6.pc.box
  clear hm6
  have HCG := hid (Config_any (sb := sb) { cc with progs := [prN ⟨io, ia, ib, ic, im⟩] } ⟨ai, ni, ki, al, nl, kl, ac, nc, kc, some ⟨g, 0, none⟩, 1, kp⟩ W6 (HE.out.below HM6.out.below) HM6.out.pc.built.cfgIn)
  rw [HCV.out, HM.out.2.1] at HCG
  go_upto_region 12 with (go_at_call 15; go_must (refine HCG.out.mono ?_; rintro e w7 ⟨v7, rfl, ht, hb7⟩; have hv7 : v7 = .nilIface := ht; subst hv7; have HD7 := hid hb7; clear ht hb7))
  have HM7 := hid (HM6.out.later HD7.out)
  clear HCG HD7 HM6 k0 k1 k2 k3 k4 k5 k6 k7 k8 k9 k10 k11
  have c1 := HM7.out.cells 1
  have f1 := HM7.out.free 1
  simp only [List.getElem?_toArray, List.getElem?_cons_zero, List.getElem?_cons_succ] at c1
  go_upto_region 13 with fail
  refine wp_rename (fun W => NInv w (pi + 1) q { cc with progs := [prN ⟨io, ia, ib, ic, im⟩] } ⟨ai, ni, ki, al, nl, kl, ac, nc, kc, some ⟨g, 0, none⟩, 1, kp⟩ W) (HM7.out.put HW1.out 1 _) ?_
  clear c1 f1 HM7
  intro w8 hm8
  have HM8 := hid hm8
  obtain ⟨g', hg', _, ⟨v8, hv8⟩, hf8, hg8, hl8, _⟩ := hm8.pc.row1 rfl
  cases hg'
  have k8 := (cfg_facts hm8.pc.box).2.2.2.2.2.2.2.2.2.2.2
  clear hm8
  have HV8 := hid (And.intro hv8 (And.intro hf8 hl8))
  have HKB := hid (fun (W' : World) (hb : Below w8.heap.size w8 W') => show W'.cell? ⟨q, 11, none⟩ = some (.slice (some ⟨g, 0, none⟩) 1 kp) from (hb.cell (World.block_lt_of_cell? _ _ k8)).trans k8)
  have HKS := hid (fun (W' : World) (v : Value) (hb : Below w8.heap.size w8 W') => show (W'.setCell ⟨g, 0, none⟩ v).cell? ⟨q, 11, none⟩ = some (.slice (some ⟨g, 0, none⟩) 1 kp) from
    have hw : Wrote (fun b => b = g) W' (W'.setCell ⟨g, 0, none⟩ v) := Wrote.setCell (S := fun b => b = g) (Wrote.refl _ W') (p := ⟨g, 0, none⟩) (fun _ => rfl) _
    have h := HKB.out W' hb
    (World.cell?_of_block (hw.block _ (World.block_lt_of_cell? _ _ h) (fun e => HG.out.2 e.symm))).trans h)
  have HS1 := hid (fun (W : World) (n : Nat) (hn : W.heap.size = n) => show Calls Tryd.prog 17 #[.int .i64 1, .slice (some ⟨n, 0, none⟩) 1 1] (W.alloc (.cells #[Value.int .i64 15, .int .i64 l, .int .i64 0, .int .i64 0, .int .i64 0] 47)) (InsRet (secL 1 [⟨15, l, 0, 0, 0⟩]) (W.alloc (.cells #[Value.int .i64 15, .int .i64 l, .int .i64 0, .int .i64 0, .int .i64 0] 47))) from
    section_any 1 (some ⟨n, 0, none⟩) 1 1 [⟨15, l, 0, 0, 0⟩] _ (by subst hn; exact InsRow.lit [⟨15, l, 0, 0, 0⟩] 1 W 47 _ rfl rfl) (fun e => by cases e) (by decide))
  have HS0 := hid (fun (W : World) (g : Nat) (cap : Nat) (h : InsRow W (some ⟨g, 0, none⟩) 3 (secL 1 [⟨15, l, 0, 0, 0⟩])) => section_any 0 (some ⟨g, 0, none⟩) 3 cap _ W h (fun e => by cases e) (by decide))
  clear k8 hv8 hf8 hg8 hl8
  go_region_held3 (fun w' => w'.cell? ⟨q, 11, none⟩ = some (.slice (some ⟨g, 0, none⟩) 1 kp)) (first | exact HKS.out _ _ HB9.out | exact HKB.out _ HB9.out | exact HKB.out _ HB8.out | exact HKB.out _ (bnew (bdrew (bid _)) _) | exact HKB.out _ (bdrew (bid _)))
    (first
      | (have _g := HB8; go_at_call 17; (with_reducible refine (HS0.out _ _ _ HR8.out).mono ?_); rintro e u1 ⟨v1, rfl, ho1, hb1⟩; obtain ⟨g9, c9, rfl, hg9, _, hr9, hc9, hm9⟩ := ho1.form (n := 5) rfl (by decide); have HR9 := hid hr9; have HC9 := hid (And.intro hc9 hm9); have HB9 := hid (bthen HB8.out hb1); have HG9 := hid (Nat.le_trans HB8.out.size hg9); obtain ⟨hk4, hk5⟩ := keeps HB9.out HV8.out.1 HV8.out.2.1; clear ho1 hb1 hr9 hc9 hm9 hg9)
      | (go_at_call 17; refine (HS1.out w8.drew _ rfl).mono ?_; rintro e u0 ⟨v0, rfl, ho0, hb0⟩; obtain ⟨g8, c8, rfl, _, _, hr8, _, _⟩ := ho0.form (n := 3) rfl (by decide); have HR8 := hid hr8; have HB8 := hid (bthen (bnew (bdrew (bid w8)) _) hb0); clear ho0 hb0 hr8))
  go_upto_region 14 with fail
  have HMS := hid ((HM8.out.later HB9.out).set (Nat.le_succ_of_le HW1.out) rfl (g := g) rfl HR9.out HC9.out.1 HC9.out.2 (fun y hy => by cases hy; exact ⟨Nat.le_trans (Nat.le_trans (HM8.out.pc.built.progs.old (g := g) rfl).1 (Nat.le_of_lt HV8.out.2.2)) HG9.out, fun e => by have h1 := HV8.out.2.2; have h2 := HG9.out; dsimp only at e; omega⟩))
  refine wp_rename (fun W => NInv w (pi + 1) q { cc with progs := [prW l] } ⟨ai, ni, ki, al, nl, kl, ac, nc, kc, some ⟨g, 0, none⟩, 1, kp⟩ W) HMS.out ?_
  clear HMS HR8 HB8 HR9 HC9 HB9 HG9 hk4 hk5 HKB HKS HS1 HS0 HM8 HV8
  intro W9 hm9
  have HM9 := hid hm9
  obtain ⟨k0, k1, k2, k3, k4, k5, k6, k7, k8, k9, k10, k11⟩ := cfg_facts hm9.pc.box
  clear hm9
  have HCF := hid (Config_any (sb := sb) { cc with progs := [prW l] } ⟨ai, ni, ki, al, nl, kl, ac, nc, kc, some ⟨g, 0, none⟩, 1, kp⟩ W9 (HE.out.below HM9.out.below) HM9.out.pc.built.cfgIn)
  rw [HCV.out, HM.out.2.2.1] at HCF
  go_upto_region 17 with (first | (go_at_call 15; go_must (refine HCF.out.mono ?_; rintro e wa ⟨v4, rfl, ht, hb4⟩; obtain ⟨Ta, ba, hv4⟩ := Tells.err ht; subst hv4; have HT := hid ht; have HD4 := hid hb4; have qa4 := run_neq_err Ta (.pointer (some ba)); have qa5 := run_eql_nil Ta (.pointer (some ba)); clear ht hb4)) | (go_at_call 18; go_must (refine (Code_tells (HE.out.below (bthen HM9.out.below HD4.out)) HT.out).mono ?_; rintro e wb ⟨rfl, hb5⟩; have HD5 := hid (bthen HD4.out hb5); clear hb5)))
  have HMb := hid (HM9.out.later HD5.out)
  clear HCF HT HD4 HD5 HM9 k0 k1 k2 k3 k4 k5 k6 k7 k8 k9 k10 k11
  have hl3 : l = 0 ∨ l = 1 ∨ l = 2 := by omega
  rcases hl3 with rfl | rfl | rfl
  · obtain ⟨g', hg', _, ⟨v8, hv8⟩, hf8, hg8, hl8, _⟩ := HMb.out.pc.row1 rfl
    cases hg'
    have k8 := (cfg_facts HMb.out.pc.box).2.2.2.2.2.2.2.2.2.2.2
    have HV8 := hid (And.intro hv8 (And.intro hf8 hl8))
    have HKB := hid (fun (W' : World) (hb : Below wb.heap.size wb W') => show W'.cell? ⟨q, 11, none⟩ = some (.slice (some ⟨g, 0, none⟩) 1 kp) from (hb.cell (World.block_lt_of_cell? _ _ k8)).trans k8)
    have HKS := hid (fun (W' : World) (v : Value) (hb : Below wb.heap.size wb W') => show (W'.setCell ⟨g, 0, none⟩ v).cell? ⟨q, 11, none⟩ = some (.slice (some ⟨g, 0, none⟩) 1 kp) from
      have hw : Wrote (fun b => b = g) W' (W'.setCell ⟨g, 0, none⟩ v) := Wrote.setCell (S := fun b => b = g) (Wrote.refl _ W') (p := ⟨g, 0, none⟩) (fun _ => rfl) _
      have h := HKB.out W' hb
      (World.cell?_of_block (hw.block _ (World.block_lt_of_cell? _ _ h) (fun e => HG.out.2 e.symm))).trans h)
    have HS1 := hid (fun (W : World) (n : Nat) (hn : W.heap.size = n) => show Calls Tryd.prog 17 #[.int .i64 0, .slice (some ⟨n, 0, none⟩) 2 2] (W.alloc (.cells #[Value.int .i64 15, .int .i64 0, .int .i64 0, .int .i64 0, .int .i64 0, .int .i64 15, .int .i64 1, .int .i64 0, .int .i64 0, .int .i64 0] 47)) (InsRet (prT 0) (W.alloc (.cells #[Value.int .i64 15, .int .i64 0, .int .i64 0, .int .i64 0, .int .i64 0, .int .i64 15, .int .i64 1, .int .i64 0, .int .i64 0, .int .i64 0] 47))) from
      section_any 0 (some ⟨n, 0, none⟩) 2 2 [⟨15, 0, 0, 0, 0⟩, ⟨15, 1, 0, 0, 0⟩] _ (by subst hn; exact InsRow.lit [⟨15, 0, 0, 0, 0⟩, ⟨15, 1, 0, 0, 0⟩] 2 W 47 _ rfl rfl) (fun e => by cases e) (by decide))
    clear k8 hv8 hf8 hg8 hl8
    go_region_held3 (fun w' => w'.cell? ⟨q, 11, none⟩ = some (.slice (some ⟨g, 0, none⟩) 1 kp)) (first | exact HKS.out _ _ HB9.out | exact HKB.out _ HB9.out | exact HKB.out _ (bnew (bdrew (bid _)) _) | exact HKB.out _ (bdrew (bid _)))
      ((go_at_call 17; refine (HS1.out wb.drew _ rfl).mono ?_; rintro e u1 ⟨v1, rfl, ho1, hb1⟩; obtain ⟨g9, c9, rfl, hg9, _, hr9, hc9, hm9⟩ := ho1.form (n := 4) rfl (by decide); have HR9 := hid hr9; have HC9 := hid (And.intro hc9 hm9); have HB9 := hid (bthen (bnew (bdrew (bid wb)) _) hb1); have HG9 := hid (show wb.heap.size ≤ g9 from by have h : (wb.drew.alloc (.cells #[Value.int .i64 15, .int .i64 0, .int .i64 0, .int .i64 0, .int .i64 0, .int .i64 15, .int .i64 1, .int .i64 0, .int .i64 0, .int .i64 0] 47)).heap.size ≤ g9 := hg9; exact Nat.le_trans (bnew (bdrew (bid wb)) _).size h); obtain ⟨hk4, hk5⟩ := keeps HB9.out HV8.out.1 HV8.out.2.1; clear ho1 hb1 hr9 hc9 hm9 hg9))
    go_upto_region 18 with fail
    have HMS := hid ((HMb.out.later HB9.out).set (Nat.le_succ_of_le HW1.out) rfl (g := g) rfl HR9.out HC9.out.1 HC9.out.2 (fun y hy => by cases hy; exact ⟨Nat.le_trans (Nat.le_trans (HMb.out.pc.built.progs.old (g := g) rfl).1 (Nat.le_of_lt HV8.out.2.2)) HG9.out, fun e => by have h1 := HV8.out.2.2; have h2 := HG9.out; dsimp only at e; omega⟩))
    refine wp_rename (fun W => NInv w (pi + 1) q { cc with progs := [prT 0] } ⟨ai, ni, ki, al, nl, kl, ac, nc, kc, some ⟨g, 0, none⟩, 1, kp⟩ W) HMS.out ?_
    clear HMS HR9 HC9 HB9 HG9 hk4 hk5 HKB HKS HS1 HMb HV8
    intro wc hmc
    have HMc := hid hmc
    obtain ⟨k0, k1, k2, k3, k4, k5, k6, k7, k8, k9, k10, k11⟩ := cfg_facts hmc.pc.box
    clear hmc
    have HCF := hid (Config_any (sb := sb) { cc with progs := [prT 0] } ⟨ai, ni, ki, al, nl, kl, ac, nc, kc, some ⟨g, 0, none⟩, 1, kp⟩ wc (HE.out.below HMc.out.below) HMc.out.pc.built.cfgIn)
    rw [HCV.out, HM.out.2.2.2] at HCF
    go_upto_region 20 with (first | (go_at_call 15; go_must (refine HCF.out.mono ?_; rintro e wd ⟨v4, rfl, ht, hb4⟩; obtain ⟨Tc, bc, hv4⟩ := Tells.err ht; subst hv4; have HT := hid ht; have HDd := hid (bthen HMc.out.below hb4); have qc4 := run_neq_err Tc (.pointer (some bc)); clear ht hb4)) | (go_at_call 20; go_must (refine (Where_tells (HE.out.below HDd.out) HT.out).mono ?_; rintro e we ⟨rfl, hb5⟩; have HDe := hid (bthen HDd.out hb5); have HTe := hid (HT.out.below hb5); clear hb5)))
    go_wp2_with (first | (go_at_call 11; go_must (refine (told6_any _ (HE.out.below HDe.out)).mono ?_; rintro e wf ⟨rfl, hb6⟩; have HDf := hid (bthen HDe.out hb6); have HTf := hid (HTe.out.below hb6); clear hb6)) | (go_at_call 18; go_must (refine (Code_tells (HE.out.below HDf.out) HTf.out).mono ?_; rintro e wg ⟨rfl, hb7⟩; have HDg := hid (bthen HDf.out hb7); clear hb7)))
    go_ret
    exact ⟨rfl, HDg.out⟩
  · obtain ⟨g', hg', _, ⟨v8, hv8⟩, hf8, hg8, hl8, _⟩ := HMb.out.pc.row1 rfl
    cases hg'
    have k8 := (cfg_facts HMb.out.pc.box).2.2.2.2.2.2.2.2.2.2.2
    have HV8 := hid (And.intro hv8 (And.intro hf8 hl8))
    have HKB := hid (fun (W' : World) (hb : Below wb.heap.size wb W') => show W'.cell? ⟨q, 11, none⟩ = some (.slice (some ⟨g, 0, none⟩) 1 kp) from (hb.cell (World.block_lt_of_cell? _ _ k8)).trans k8)
    have HKS := hid (fun (W' : World) (v : Value) (hb : Below wb.heap.size wb W') => show (W'.setCell ⟨g, 0, none⟩ v).cell? ⟨q, 11, none⟩ = some (.slice (some ⟨g, 0, none⟩) 1 kp) from
      have hw : Wrote (fun b => b = g) W' (W'.setCell ⟨g, 0, none⟩ v) := Wrote.setCell (S := fun b => b = g) (Wrote.refl _ W') (p := ⟨g, 0, none⟩) (fun _ => rfl) _
      have h := HKB.out W' hb
      (World.cell?_of_block (hw.block _ (World.block_lt_of_cell? _ _ h) (fun e => HG.out.2 e.symm))).trans h)
    have HS1 := hid (fun (W : World) (n : Nat) (hn : W.heap.size = n) => show Calls Tryd.prog 17 #[.int .i64 1, .slice (some ⟨n, 0, none⟩) 2 2] (W.alloc (.cells #[Value.int .i64 15, .int .i64 1, .int .i64 0, .int .i64 0, .int .i64 0, .int .i64 15, .int .i64 2, .int .i64 0, .int .i64 0, .int .i64 0] 47)) (InsRet (prT 1) (W.alloc (.cells #[Value.int .i64 15, .int .i64 1, .int .i64 0, .int .i64 0, .int .i64 0, .int .i64 15, .int .i64 2, .int .i64 0, .int .i64 0, .int .i64 0] 47))) from
      section_any 1 (some ⟨n, 0, none⟩) 2 2 [⟨15, 1, 0, 0, 0⟩, ⟨15, 2, 0, 0, 0⟩] _ (by subst hn; exact InsRow.lit [⟨15, 1, 0, 0, 0⟩, ⟨15, 2, 0, 0, 0⟩] 2 W 47 _ rfl rfl) (fun e => by cases e) (by decide))
    clear k8 hv8 hf8 hg8 hl8
    go_region_held3 (fun w' => w'.cell? ⟨q, 11, none⟩ = some (.slice (some ⟨g, 0, none⟩) 1 kp)) (first | exact HKS.out _ _ HB9.out | exact HKB.out _ HB9.out | exact HKB.out _ (bnew (bdrew (bid _)) _) | exact HKB.out _ (bdrew (bid _)))
      ((go_at_call 17; refine (HS1.out wb.drew _ rfl).mono ?_; rintro e u1 ⟨v1, rfl, ho1, hb1⟩; obtain ⟨g9, c9, rfl, hg9, _, hr9, hc9, hm9⟩ := ho1.form (n := 4) rfl (by decide); have HR9 := hid hr9; have HC9 := hid (And.intro hc9 hm9); have HB9 := hid (bthen (bnew (bdrew (bid wb)) _) hb1); have HG9 := hid (show wb.heap.size ≤ g9 from by have h : (wb.drew.alloc (.cells #[Value.int .i64 15, .int .i64 1, .int .i64 0, .int .i64 0, .int .i64 0, .int .i64 15, .int .i64 2, .int .i64 0, .int .i64 0, .int .i64 0] 47)).heap.size ≤ g9 := hg9; exact Nat.le_trans (bnew (bdrew (bid wb)) _).size h); obtain ⟨hk4, hk5⟩ := keeps HB9.out HV8.out.1 HV8.out.2.1; clear ho1 hb1 hr9 hc9 hm9 hg9))
    go_upto_region 18 with fail
    have HMS := hid ((HMb.out.later HB9.out).set (Nat.le_succ_of_le HW1.out) rfl (g := g) rfl HR9.out HC9.out.1 HC9.out.2 (fun y hy => by cases hy; exact ⟨Nat.le_trans (Nat.le_trans (HMb.out.pc.built.progs.old (g := g) rfl).1 (Nat.le_of_lt HV8.out.2.2)) HG9.out, fun e => by have h1 := HV8.out.2.2; have h2 := HG9.out; dsimp only at e; omega⟩))
    refine wp_rename (fun W => NInv w (pi + 1) q { cc with progs := [prT 1] } ⟨ai, ni, ki, al, nl, kl, ac, nc, kc, some ⟨g, 0, none⟩, 1, kp⟩ W) HMS.out ?_
    clear HMS HR9 HC9 HB9 HG9 hk4 hk5 HKB HKS HS1 HMb HV8
    intro wc hmc
    have HMc := hid hmc
    obtain ⟨k0, k1, k2, k3, k4, k5, k6, k7, k8, k9, k10, k11⟩ := cfg_facts hmc.pc.box
    clear hmc
    have HCF := hid (Config_any (sb := sb) { cc with progs := [prT 1] } ⟨ai, ni, ki, al, nl, kl, ac, nc, kc, some ⟨g, 0, none⟩, 1, kp⟩ wc (HE.out.below HMc.out.below) HMc.out.pc.built.cfgIn)
    rw [HCV.out, HM.out.2.2.2] at HCF
    go_upto_region 20 with (first | (go_at_call 15; go_must (refine HCF.out.mono ?_; rintro e wd ⟨v4, rfl, ht, hb4⟩; obtain ⟨Tc, bc, hv4⟩ := Tells.err ht; subst hv4; have HT := hid ht; have HDd := hid (bthen HMc.out.below hb4); have qc4 := run_neq_err Tc (.pointer (some bc)); clear ht hb4)) | (go_at_call 20; go_must (refine (Where_tells (HE.out.below HDd.out) HT.out).mono ?_; rintro e we ⟨rfl, hb5⟩; have HDe := hid (bthen HDd.out hb5); have HTe := hid (HT.out.below hb5); clear hb5)))
    go_wp2_with (first | (go_at_call 11; go_must (refine (told6_any _ (HE.out.below HDe.out)).mono ?_; rintro e wf ⟨rfl, hb6⟩; have HDf := hid (bthen HDe.out hb6); have HTf := hid (HTe.out.below hb6); clear hb6)) | (go_at_call 18; go_must (refine (Code_tells (HE.out.below HDf.out) HTf.out).mono ?_; rintro e wg ⟨rfl, hb7⟩; have HDg := hid (bthen HDf.out hb7); clear hb7)))
    go_ret
    exact ⟨rfl, HDg.out⟩
  · obtain ⟨g', hg', _, ⟨v8, hv8⟩, hf8, hg8, hl8, _⟩ := HMb.out.pc.row1 rfl
    cases hg'
    have k8 := (cfg_facts HMb.out.pc.box).2.2.2.2.2.2.2.2.2.2.2
    have HV8 := hid (And.intro hv8 (And.intro hf8 hl8))
    have HKB := hid (fun (W' : World) (hb : Below wb.heap.size wb W') => show W'.cell? ⟨q, 11, none⟩ = some (.slice (some ⟨g, 0, none⟩) 1 kp) from (hb.cell (World.block_lt_of_cell? _ _ k8)).trans k8)
    have HKS := hid (fun (W' : World) (v : Value) (hb : Below wb.heap.size wb W') => show (W'.setCell ⟨g, 0, none⟩ v).cell? ⟨q, 11, none⟩ = some (.slice (some ⟨g, 0, none⟩) 1 kp) from
      have hw : Wrote (fun b => b = g) W' (W'.setCell ⟨g, 0, none⟩ v) := Wrote.setCell (S := fun b => b = g) (Wrote.refl _ W') (p := ⟨g, 0, none⟩) (fun _ => rfl) _
      have h := HKB.out W' hb
      (World.cell?_of_block (hw.block _ (World.block_lt_of_cell? _ _ h) (fun e => HG.out.2 e.symm))).trans h)
    have HS1 := hid (fun (W : World) (n : Nat) (hn : W.heap.size = n) => show Calls Tryd.prog 17 #[.int .i64 2, .slice (some ⟨n, 0, none⟩) 2 2] (W.alloc (.cells #[Value.int .i64 15, .int .i64 2, .int .i64 0, .int .i64 0, .int .i64 0, .int .i64 15, .int .i64 0, .int .i64 0, .int .i64 0, .int .i64 0] 47)) (InsRet (prT 2) (W.alloc (.cells #[Value.int .i64 15, .int .i64 2, .int .i64 0, .int .i64 0, .int .i64 0, .int .i64 15, .int .i64 0, .int .i64 0, .int .i64 0, .int .i64 0] 47))) from
      section_any 2 (some ⟨n, 0, none⟩) 2 2 [⟨15, 2, 0, 0, 0⟩, ⟨15, 0, 0, 0, 0⟩] _ (by subst hn; exact InsRow.lit [⟨15, 2, 0, 0, 0⟩, ⟨15, 0, 0, 0, 0⟩] 2 W 47 _ rfl rfl) (fun e => by cases e) (by decide))
    clear k8 hv8 hf8 hg8 hl8
    go_region_held3 (fun w' => w'.cell? ⟨q, 11, none⟩ = some (.slice (some ⟨g, 0, none⟩) 1 kp)) (first | exact HKS.out _ _ HB9.out | exact HKB.out _ HB9.out | exact HKB.out _ (bnew (bdrew (bid _)) _) | exact HKB.out _ (bdrew (bid _)))
      ((go_at_call 17; refine (HS1.out wb.drew _ rfl).mono ?_; rintro e u1 ⟨v1, rfl, ho1, hb1⟩; obtain ⟨g9, c9, rfl, hg9, _, hr9, hc9, hm9⟩ := ho1.form (n := 4) rfl (by decide); have HR9 := hid hr9; have HC9 := hid (And.intro hc9 hm9); have HB9 := hid (bthen (bnew (bdrew (bid wb)) _) hb1); have HG9 := hid (show wb.heap.size ≤ g9 from by have h : (wb.drew.alloc (.cells #[Value.int .i64 15, .int .i64 2, .int .i64 0, .int .i64 0, .int .i64 0, .int .i64 15, .int .i64 0, .int .i64 0, .int .i64 0, .int .i64 0] 47)).heap.size ≤ g9 := hg9; exact Nat.le_trans (bnew (bdrew (bid wb)) _).size h); obtain ⟨hk4, hk5⟩ := keeps HB9.out HV8.out.1 HV8.out.2.1; clear ho1 hb1 hr9 hc9 hm9 hg9))
    go_upto_region 18 with fail
    have HMS := hid ((HMb.out.later HB9.out).set (Nat.le_succ_of_le HW1.out) rfl (g := g) rfl HR9.out HC9.out.1 HC9.out.2 (fun y hy => by cases hy; exact ⟨Nat.le_trans (Nat.le_trans (HMb.out.pc.built.progs.old (g := g) rfl).1 (Nat.le_of_lt HV8.out.2.2)) HG9.out, fun e => by have h1 := HV8.out.2.2; have h2 := HG9.out; dsimp only at e; omega⟩))
    refine wp_rename (fun W => NInv w (pi + 1) q { cc with progs := [prT 2] } ⟨ai, ni, ki, al, nl, kl, ac, nc, kc, some ⟨g, 0, none⟩, 1, kp⟩ W) HMS.out ?_
    clear HMS HR9 HC9 HB9 HG9 hk4 hk5 HKB HKS HS1 HMb HV8
    intro wc hmc
    have HMc := hid hmc
    obtain ⟨k0, k1, k2, k3, k4, k5, k6, k7, k8, k9, k10, k11⟩ := cfg_facts hmc.pc.box
    clear hmc
    have HCF := hid (Config_any (sb := sb) { cc with progs := [prT 2] } ⟨ai, ni, ki, al, nl, kl, ac, nc, kc, some ⟨g, 0, none⟩, 1, kp⟩ wc (HE.out.below HMc.out.below) HMc.out.pc.built.cfgIn)
    rw [HCV.out, HM.out.2.2.2] at HCF
    go_upto_region 20 with (first | (go_at_call 15; go_must (refine HCF.out.mono ?_; rintro e wd ⟨v4, rfl, ht, hb4⟩; obtain ⟨Tc, bc, hv4⟩ := Tells.err ht; subst hv4; have HT := hid ht; have HDd := hid (bthen HMc.out.below hb4); have qc4 := run_neq_err Tc (.pointer (some bc)); clear ht hb4)) | (go_at_call 20; go_must (refine (Where_tells (HE.out.below HDd.out) HT.out).mono ?_; rintro e we ⟨rfl, hb5⟩; have HDe := hid (bthen HDd.out hb5); have HTe := hid (HT.out.below hb5); clear hb5)))
    go_wp2_with (first | (go_at_call 11; go_must (refine (told6_any _ (HE.out.below HDe.out)).mono ?_; rintro e wf ⟨rfl, hb6⟩; have HDf := hid (bthen HDe.out hb6); have HTf := hid (HTe.out.below hb6); clear hb6)) | (go_at_call 18; go_must (refine (Code_tells (HE.out.below HDf.out) HTf.out).mono ?_; rintro e wg ⟨rfl, hb7⟩; have HDg := hid (bthen HDf.out hb7); clear hb7)))
    go_ret
    exact ⟨rfl, HDg.out⟩

end Go.Proofs.YtmogdgdedmlokaaDoor
