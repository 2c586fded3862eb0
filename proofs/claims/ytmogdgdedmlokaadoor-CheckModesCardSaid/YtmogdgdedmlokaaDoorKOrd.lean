/-
  CheckOrder: walked.
-/
import Derived.Test.YtmogdgdedmlokaaDoorKTold
import Derived.Deep.RegionHeld3
import Derived.BigQuiet
namespace Go.Proofs.YtmogdgdedmlokaaDoor
open Go.RowKit
set_option linter.unusedVariables false

/-- append of a row of instructions, as a step of a region that draws its order. -/
theorem step_append_insRow {ops : Array Oper} {o : Oper} {a : Act} {W : World} {K : Act → World → Prop} {Q : Exit → Act → World → Prop} {E : Prop} (hgd : o.guard = none) (s x : Operand)
    (ho : o.op = .call { callee := .builtin .append, args := #[s, x], argTypes := #[42, 42] })
    {B : Nat} {v : Value} {ps : List Ins} (hs : a.eval s = v) {xb off m c : Nat} {qs : List Ins} (hx : a.eval x = .slice (some ⟨xb, off, none⟩) m c) (hown : OwnIns B v ps W) (hrow : InsRow W (some ⟨xb, off, none⟩) m qs) (hm : 0 < m)
    (h6 : ps.length + m ≤ 1000) (hB : B ≤ W.heap.size) (n : Nat) (hn : (ps ++ qs).length = n)
    (h : ∀ g cap w', OwnIns B (.slice (some ⟨g, 0, none⟩) n cap) (ps ++ qs) w' → Wrote (fun b => v.ownBlock = some b) W w' → K (a.put o.dst (.slice (some ⟨g, 0, none⟩) n cap)) w') :
    if Region.wanted o (yielded ops a.tmps) = true then Oper.wp Tryd.prog o a W K Q else E := by
  obtain ⟨iI, hi, hz0, hz1, hz2⟩ := info_parts infoIns
  have hc := hrow.cnt
  subst hn
  refine step_append_lies W hgd s x 42 ho B 47 iI _ 5 40 Tryd.underlying42 hi hz0 hz1 hz2 rfl (by decide) v ps.length (insCells ps) hs hown.row ⟨xb, off, none⟩ m c (insCells qs) hx (by rw [insCells_len, hc]) hrow.cells (insCells_one qs) hm (by unfold maxLen; omega) (by omega) hB W.heap.size rfl ?_
  intro g cap w' hown' hg hat hlt
  have e : ps.length + m = (ps ++ qs).length := by rw [List.length_append, hc]
  rw [e] at hown' ⊢
  exact h g cap w' ⟨by rw [insCells_app]; exact hown'⟩ ((Wrote.refl _ W).grown hg fun j hj _ => hj)

def prO (a b d : Int) : List Ins := secL a (secL b [] ++ secL d [])
def prS (a b d : Int) : List Ins := secL a [] ++ secL b [] ++ secL d []
def ordF (a b d : Int) : Flt := if a < b ∧ b < d then none else some (8, some (0, if a < b then 3 else 1))
theorem ord_all : ∀ a b d : Fin 3, configF { build6 k80 [[]] with progs := [prO a.1 b.1 d.1] } (cvOf 9 3 3 1) = ordF a.1 b.1 d.1 ∧ configF { build6 k80 [[]] with progs := [prS a.1 b.1 d.1] } (cvOf 9 3 3 1) = none := by decide +kernel
theorem ord_any (a b d : Int) (a0 : 0 ≤ a) (a1 : a < 3) (b0 : 0 ≤ b) (b1 : b < 3) (d0 : 0 ≤ d) (d1 : d < 3) : configF { build6 k80 [[]] with progs := [prO a b d] } (cvOf 9 3 3 1) = ordF a b d ∧ configF { build6 k80 [[]] with progs := [prS a b d] } (cvOf 9 3 3 1) = none := by
  obtain ⟨x, rfl⟩ : ∃ x : Fin 3, a = (x.1 : Int) := ⟨⟨a.toNat, by omega⟩, (Int.toNat_of_nonneg a0).symm⟩
  obtain ⟨y, rfl⟩ : ∃ x : Fin 3, b = (x.1 : Int) := ⟨⟨b.toNat, by omega⟩, (Int.toNat_of_nonneg b0).symm⟩
  obtain ⟨z, rfl⟩ : ∃ x : Fin 3, d = (x.1 : Int) := ⟨⟨d.toNat, by omega⟩, (Int.toNat_of_nonneg d0).symm⟩
  exact ord_all x y z
theorem len_e : (build6 k80 [[]]).progs.length = 1 ∧ (build6 k80 [[]]).locks.length = 3 ∧ (build6 k80 [[]]).conds.length = 3 := by decide +kernel

/-- One row, and that empty. -/
theorem rowsE (w : World) : RowsRow ((w.alloc (.cells #[] 3)).alloc (.cells #[.slice (some ⟨w.heap.size, 0, none⟩) 0 0] 28)) (some ⟨w.heap.size + 1, 0, none⟩) 1 [[]] := by
  refine ⟨rfl, .inr ⟨w.heap.size + 1, 0, rfl, by simp, fun k zs hk => ?_⟩⟩
  match k, hk with
  | 0, hk =>
    cases hk
    exact ⟨by decide, some ⟨w.heap.size, 0, none⟩, 0, cell_of_blk (heap_alloc_new1 _ _ _) 0, (IntRow.lit [] 3 w #[] rfl 0 rfl).below (bnew (bid _) _)⟩
  | k + 1, hk => simp at hk
theorem Build_e (w : World) (n : Nat) (hn : w.heap.size = n) : Calls Tryd.prog 12 #[.agg #[.int .i64 0, .int .i64 0, .int .i64 0, .int .i64 0, .int .i64 0, .int .i64 0, .int .i64 0, .int .i64 0], .slice (some ⟨n + 1, 0, none⟩) 1 1] ((w.alloc (.cells #[] 3)).alloc (.cells #[.slice (some ⟨n, 0, none⟩) 0 0] 28)) (BuildRet (build6 k80 [[]]) ((w.alloc (.cells #[] 3)).alloc (.cells #[.slice (some ⟨n, 0, none⟩) 0 0] 28))) := by
  subst hn
  exact Build_any k80 _ 1 1 [[]] _ (rowsE w) (by decide)

/-- A row of instructions that a call made, and not empty. -/
theorem OwnIns.form {B n : Nat} {v : Value} {ps : List Ins} {w : World} (h : OwnIns B v ps w) (hn : ps.length = n) (h0 : 0 < n) : ∃ g cap, v = .slice (some ⟨g, 0, none⟩) n cap ∧ B ≤ g ∧ g < w.heap.size ∧ InsRow w (some ⟨g, 0, none⟩) n ps ∧ n ≤ cap ∧ cap ≤ maxLen := by
  subst hn
  obtain ⟨a, c, hv, hr, hn, hc, hm⟩ := h.shape
  obtain ⟨g, cap, hv', hB, hlt⟩ := h.row.form h0
  rw [hv] at hv'
  simp only [Value.slice.injEq] at hv'
  obtain ⟨rfl, _, rfl⟩ := hv'
  exact ⟨g, c, hv, hB, hlt, hr, hc, hm⟩

/-- The cells that the two assignments of CheckOrder read. -/
def OrdS (q g kp lb : Nat) (x y z : Int) (W : World) : Prop :=
  W.cell? ⟨q, 11, none⟩ = some (.slice (some ⟨g, 0, none⟩) 1 kp) ∧ W.cell? ⟨lb, 0, none⟩ = some (.int .i64 x) ∧ W.cell? ⟨lb, 1, none⟩ = some (.int .i64 y) ∧ W.cell? ⟨lb, 2, none⟩ = some (.int .i64 z)
theorem OrdS.below {q g kp lb : Nat} {x y z : Int} {W W' : World} (h : OrdS q g kp lb x y z W) (hb : Below W.heap.size W W') : OrdS q g kp lb x y z W' := by
  have kp : ∀ {a : Addr} {v : Value}, W.cell? a = some v → W'.cell? a = some v := fun {a v} h => (hb.cell (World.block_lt_of_cell? _ _ h)).trans h
  exact ⟨kp h.1, kp h.2.1, kp h.2.2.1, kp h.2.2.2⟩
theorem OrdS.set {q g kp lb : Nat} {x y z : Int} {W : World} (h : OrdS q g kp lb x y z W) (h1 : g ≠ q) (h2 : lb ≠ g) (v : Value) : OrdS q g kp lb x y z (W.setCell ⟨g, 0, none⟩ v) := by
  have hw : Wrote (fun b => b = g) W (W.setCell ⟨g, 0, none⟩ v) := Wrote.setCell (S := fun b => b = g) (Wrote.refl _ W) (p := ⟨g, 0, none⟩) (fun _ => rfl) _
  have kp : ∀ {a : Addr} {v' : Value}, a.block ≠ g → W.cell? a = some v' → (W.setCell ⟨g, 0, none⟩ v).cell? a = some v' := fun {a v'} hne h => (World.cell?_of_block (hw.block _ (World.block_lt_of_cell? _ _ h) hne)).trans h
  exact ⟨kp (fun e => h1 e.symm) h.1, kp h2 h.2.1, kp h2 h.2.2.1, kp h2 h.2.2.2⟩
theorem keeps {W W' : World} {g : Nat} {v : Value} (hb : Below W.heap.size W W') (hv : W.cell? ⟨g, 0, none⟩ = some v) (hf : W.frozen? ⟨g, 0, none⟩ = false) : W'.cell? ⟨g, 0, none⟩ = some v ∧ W'.frozen? ⟨g, 0, none⟩ = false := by
  have hl := World.block_lt_of_cell? _ _ hv
  have e := hb.block g hl
  exact ⟨(World.cell?_of_block e).trans hv, (World.frozen?_of_block e).trans hf⟩

set_option maxRecDepth 100000 in
set_option maxHeartbeats 8000000 in
theorem order_any {sb : Nat → Addr} (a b d : Int) (w : World) (hE : Errs sb w) :
    Calls Tryd.prog 4 #[.int .i64 a, .int .i64 b, .int .i64 d] w fun e w' => e = .returned (.bool true) ∧ Below w.heap.size w w' := by
  have HE := hid hE
  clear hE
  have HPa := hid (fun W => pick6_any a 3 W (by decide) (by decide))
  have HPb := hid (fun W => pick6_any b 3 W (by decide) (by decide))
  have HPd := hid (fun W => pick6_any d 3 W (by decide) (by decide))
  obtain ⟨a0, a1⟩ := pickF_in (x := a) (n := 3) (by decide)
  obtain ⟨b0, b1⟩ := pickF_in (x := b) (n := 3) (by decide)
  obtain ⟨d0, d1⟩ := pickF_in (x := d) (n := 3) (by decide)
  generalize pickF a 3 = x at HPa a0 a1
  generalize pickF b 3 = y at HPb b0 b1
  generalize pickF d 3 = z at HPd d0 d1
  have HBT := hid Build_e
  have HO := hid (ord_any x y z a0 a1 b0 b1 d0 d1)
  have HLEN := hid len_e
  generalize build6 k80 [[]] = cc at HBT HO HLEN
  go_enter Tryd.func4, Tryd.ntmps4
  go_upto_region 2 with (first | (go_at_call 16; (with_reducible refine (HPa.out _).mono ?_); rintro e w1 ⟨rfl, rfl⟩) | (go_at_call 16; (with_reducible refine (HPb.out _).mono ?_); rintro e w1 ⟨rfl, rfl⟩) | (go_at_call 16; (with_reducible refine (HPd.out _).mono ?_); rintro e w1 ⟨rfl, rfl⟩))
  go_upto_region 3 with (go_at_call 12; go_must ((with_reducible refine (HBT.out (w.alloc (.cells #[.int .i64 x, .int .i64 y, .int .i64 z] 3)) (w.heap.size + 1) (by simp)).mono ?_); rintro e w1 ⟨s, rfl, hbt, hni, hb1⟩; have HPB := hid (PB.new (hbt.mono (bnew (bnew (bnew (bid w) _) _) _).size) (bthen (bnew (bnew (bnew (bid w) _) _) _) hb1)); have HNI := hid hni; have HBU := hid hbt; have HBL := hid (bthen (bnew (bnew (bid (w.alloc (.cells #[.int .i64 x, .int .i64 y, .int .i64 z] 3))) _) _) hb1); clear hbt hni hb1))
  obtain ⟨g, hg, hnp, ⟨v, hv⟩, hfz, hg0, hg1, hgq⟩ := HPB.out.row1 HLEN.out.1
  have HSN := hid (show s.nl = 3 ∧ s.nc = 3 ∧ s.np = 1 from by have h := HPB.out.built.nums; exact ⟨h.1.trans HLEN.out.2.1, h.2.1.trans HLEN.out.2.2, hnp⟩)
  obtain ⟨ai, ni, ki, al, nl, kl, ac, nc, kc, ap, np, kp⟩ := s
  dsimp only at hg hnp
  subst hg hnp
  have hgl : w.heap.size ≠ g := fun e => by
    have h1 : (((w.alloc (.cells #[.int .i64 x, .int .i64 y, .int .i64 z] 3)).alloc (.cells #[] 3)).alloc (.cells #[.slice (some ⟨w.heap.size + 1, 0, none⟩) 0 0] 28)).heap.size ≤ g := (HBU.out.progs.old (g := g) rfl).1
    simp at h1
    omega
  have hbl := bnew HBL.out (.cells (cc.cs ⟨ai, ni, ki, al, nl, kl, ac, nc, kc, some ⟨g, 0, none⟩, 1, kp⟩) 31)
  have hlb : (w.alloc (.cells #[.int .i64 x, .int .i64 y, .int .i64 z] 3)).heap[w.heap.size]? = some (.cells #[.int .i64 x, .int .i64 y, .int .i64 z] 3) := heap_alloc_new _ _
  have hlc : ∀ k, (w1.alloc (.cells (cc.cs ⟨ai, ni, ki, al, nl, kl, ac, nc, kc, some ⟨g, 0, none⟩, 1, kp⟩) 31)).cell? ⟨w.heap.size, k, none⟩ = #[Value.int .i64 x, .int .i64 y, .int .i64 z][k]? := fun k => (hbl.cell (p := ⟨w.heap.size, k, none⟩) (by simp)).trans (cell_of_blk hlb k)
  refine wp_rename (fun W => PB w w1.heap.size cc ⟨ai, ni, ki, al, nl, kl, ac, nc, kc, some ⟨g, 0, none⟩, 1, kp⟩ W ∧ W.cell? ⟨g, 0, none⟩ = some v ∧ W.frozen? ⟨g, 0, none⟩ = false ∧ g < W.heap.size ∧ W.cell? ⟨w.heap.size, 0, none⟩ = some (.int .i64 x) ∧ W.cell? ⟨w.heap.size, 1, none⟩ = some (.int .i64 y) ∧ W.cell? ⟨w.heap.size, 2, none⟩ = some (.int .i64 z)) ⟨HPB.out, hv, hfz, hg1, hlc 0, hlc 1, hlc 2⟩ ?_
  rintro W2 ⟨hpb, hv2, hf2, hl2, l0, l1, l2⟩
  have HGG := hid (And.intro hg0 (And.intro hg1 (And.intro hgq hgl)))
  clear hbl hlb hlc hg1 hv hfz HPB HBU HBL
  generalize w1.heap.size = q at HGG hpb hgq ⊢
  have HP2 := hid hpb
  have HW2 := hid (And.intro hv2 (And.intro hf2 hl2))
  have HS2 := hid (show OrdS q g kp w.heap.size x y z W2 from ⟨(cfg_facts hpb.box).2.2.2.2.2.2.2.2.2.2.2, l0, l1, l2⟩)
  clear hpb hv2 hf2 l0 l1 l2
  generalize hlb : w.heap.size = lb at HS2 ⊢
  have HKB := hid (fun (W' : World) (hb : Below W2.heap.size W2 W') => HS2.out.below hb)
  have HKS := hid (fun (W' : World) (v : Value) (hb : Below W2.heap.size W2 W') => (HS2.out.below hb).set HGG.out.2.2.1 (hlb ▸ HGG.out.2.2.2) v)
  have HSy := hid (fun (W : World) => section_any y none 0 0 [] W ⟨rfl, .inl ⟨rfl, rfl⟩⟩ (fun _ => rfl) (by decide))
  have HSz := hid (fun (W : World) => section_any z none 0 0 [] W ⟨rfl, .inl ⟨rfl, rfl⟩⟩ (fun _ => rfl) (by decide))
  have HSX := hid (fun (W : World) (g : Nat) (cap : Nat) (h : InsRow W (some ⟨g, 0, none⟩) 4 (secL y [] ++ secL z [])) => section_any x (some ⟨g, 0, none⟩) 4 cap _ W h (fun e => by cases e) (by decide))
  go_region_held3 (fun w' => w'.cell? ⟨q, 11, none⟩ = some (.slice (some ⟨g, 0, none⟩) 1 kp) ∧ w'.cell? ⟨lb, 0, none⟩ = some (.int .i64 x) ∧ w'.cell? ⟨lb, 1, none⟩ = some (.int .i64 y) ∧ w'.cell? ⟨lb, 2, none⟩ = some (.int .i64 z)) (first | exact HKS.out _ _ HB4.out | exact HKB.out _ HB4.out | exact HKB.out _ HB3.out | exact HKB.out _ HB2.out | exact HKB.out _ HB1.out | exact HKB.out _ (bdrew (bid _)))
    (first
      | (have _g := HB2; refine step_append_insRow rfl (.tmp 30) (.tmp 34) rfl rfl rfl (HO1.out.below HD2.out) HR2.out (by decide) (Nat.le_of_ble_eq_true rfl) HB2.out.size 4 rfl ?_; intro g3 cap3 w3 ho3 hw3; have HO3 := hid ho3; have HB3 := hid (own_below HB2.out (HO1.out.below HD2.out) HB2.out.size hw3); clear ho3 hw3)
      | (go_at_call 17; (with_reducible refine (HSy.out _).mono ?_); rintro e w1 ⟨v1, rfl, ho1, hb1⟩; obtain ⟨g1, c1, rfl, _, _, _, _, _⟩ := ho1.form (n := 2) rfl (by decide); have HO1 := hid ho1; have HB1 := hid (bthen (bdrew (bid W2)) hb1); clear ho1 hb1)
      | (have _g := HB1; go_at_call 17; (with_reducible refine (HSz.out _).mono ?_); rintro e w2 ⟨v2, rfl, ho2, hb2⟩; obtain ⟨g2, c2, rfl, _, _, hr2, _, _⟩ := ho2.form (n := 2) rfl (by decide); have HR2 := hid hr2; have HD2 := hid hb2; have HB2 := hid (bthen HB1.out hb2); clear ho2 hb2 hr2)
      | (have _g := HB3; go_at_call 17; (with_reducible refine (HSX.out _ _ _ (by obtain ⟨_, _, e, _, _, h, _⟩ := HO3.out.form (n := 4) rfl (by decide); simp only [Value.slice.injEq] at e; obtain ⟨e1, _, _⟩ := e; rw [e1]; exact h)).mono ?_); rintro e w4 ⟨v4, rfl, ho4, hb4⟩; obtain ⟨g4, c4, rfl, hg4, _, hr4, hc4, hm4⟩ := ho4.form (n := 6) rfl (by decide); have HR4 := hid hr4; have HB4 := hid (bthen HB3.out hb4); have HC4 := hid (And.intro hc4 hm4); have HG4 := hid (Nat.le_trans HB3.out.size hg4); have hk4 := keeps HB4.out HW2.out.1 HW2.out.2.1; obtain ⟨hk4, hk5⟩ := hk4; clear ho4 hb4 hr4 hc4 hm4 hg4))
  go_upto_region 4 with fail
  have HPS := hid ((HP2.out.later HB4.out).set HLEN.out.1 (g := g) rfl HR4.out HC4.out.1 HC4.out.2 (fun u hu => by cases hu; exact ⟨Nat.le_trans HP2.out.below.size HG4.out, fun e => by have h1 := HW2.out.2.2; have h2 := HG4.out; dsimp only at e; omega⟩))
  have HOS := hid (HKS.out _ (.slice (some ⟨g4, 0, none⟩) 6 c4) HB4.out)
  refine wp_rename (fun W => PB w q { cc with progs := [prO x y z] } ⟨ai, ni, ki, al, nl, kl, ac, nc, kc, some ⟨g, 0, none⟩, 1, kp⟩ W ∧ OrdS q g kp lb x y z W) ⟨HPS.out, HOS.out⟩ ?_
  clear HPS HOS hk4 hk5 HG4 HC4 HR4 HB4 HO3 HB3 HR2 HD2 HB2 HO1 HB1 HKB HKS HS2 HW2 HP2 HBT HPa HPb HPd
  rintro W3 ⟨hpb, hos⟩
  obtain ⟨g', hg', _, ⟨v3, hv3⟩, hf3, _, hl3, _⟩ := hpb.row1 rfl
  cases hg'
  have HP3 := hid hpb
  have HS3 := hid hos
  have HW3 := hid (And.intro hv3 (And.intro hf3 hl3))
  obtain ⟨k0, k1, k2, k3, k4, k5, k6, k7, k8, k9, k10, k11⟩ := cfg_facts hpb.box
  clear hpb hos hv3 hf3 hl3
  have HNN := hid (show configF { cc with progs := [prO x y z] } ⟨ai, ni, ki, al, nl, kl, ac, nc, kc, some ⟨g, 0, none⟩, 1, kp⟩ = ordF x y z by
    rw [configF_cv]
    dsimp only
    have h1 : ni = 9 := HNI.out
    have h2 : nl = 3 := HSN.out.1
    have h3 : nc = 3 := HSN.out.2.1
    rw [h1, h2, h3]
    exact HO.out.1)
  have HN2 := hid (show configF { cc with progs := [prS x y z] } ⟨ai, ni, ki, al, nl, kl, ac, nc, kc, some ⟨g, 0, none⟩, 1, kp⟩ = none by
    rw [configF_cv]
    dsimp only
    have h1 : ni = 9 := HNI.out
    have h2 : nl = 3 := HSN.out.1
    have h3 : nc = 3 := HSN.out.2.1
    rw [h1, h2, h3]
    exact HO.out.2)
  have HCF := hid (Config_any (sb := sb) { cc with progs := [prO x y z] } ⟨ai, ni, ki, al, nl, kl, ac, nc, kc, some ⟨g, 0, none⟩, 1, kp⟩ W3 (HE.out.below HP3.out.below) HP3.out.built.cfgIn)
  rw [HNN.out] at HCF
  clear HO HNN HLEN
  have q0 := run_eql_nils
  have q1 := run_neq_nils
  have hw : (x < y ∧ y < z ∧ ordF x y z = none) ∨ (x < y ∧ ¬ y < z ∧ ordF x y z = some (8, some (0, 3))) ∨ (¬ x < y ∧ ordF x y z = some (8, some (0, 1))) := by
    unfold ordF
    by_cases h1 : x < y
    · by_cases h2 : y < z
      · exact .inl ⟨h1, h2, by simp [h1, h2]⟩
      · exact .inr (.inl ⟨h1, h2, by simp [h1, h2]⟩)
    · exact .inr (.inr ⟨h1, by simp [h1]⟩)
  have HSx := hid (fun (W : World) => section_any x none 0 0 [] W ⟨rfl, .inl ⟨rfl, rfl⟩⟩ (fun _ => rfl) (by decide))
  rcases hw with ⟨h1, h2, hF⟩ | ⟨h1, h2, hF⟩ | ⟨h1, hF⟩
  · rw [hF] at HCF
    have d1 : decide (x < y) = true := decide_eq_true h1
    have d2 : decide (y < z) = true := decide_eq_true h2
    clear hF h1 h2
    go_upto_region 5 with (go_at_call 15; go_must (refine HCF.out.mono ?_; rintro e w5 ⟨v4, rfl, ht, hb5⟩; have hv4 : v4 = .nilIface := ht; subst hv4; have HD5 := hid hb5; obtain ⟨l11, l0, l1, l2⟩ := HS3.out.below hb5; clear ht hb5))
    go_quiet (fail)
    go_upto_region 8 with fail
    refine wp_rename (fun W => Below W3.heap.size W3 W) (bdrewN HD5.out) ?_
    clear HD5
    intro w5 hd5
    have HD5 := hid hd5
    clear hd5
    have HP5 := hid (HP3.out.later HD5.out)
    have HS5 := hid (HS3.out.below HD5.out)
    have HV5 := hid (show w5.cell? ⟨g, 0, none⟩ = some v3 ∧ w5.frozen? ⟨g, 0, none⟩ = false ∧ g < w5.heap.size from ⟨(keeps HD5.out HW3.out.1 HW3.out.2.1).1, (keeps HD5.out HW3.out.1 HW3.out.2.1).2, Nat.lt_of_lt_of_le HW3.out.2.2 HD5.out.size⟩)
    have HKB := hid (fun (W' : World) (hb : Below w5.heap.size w5 W') => HS5.out.below hb)
    have HKS := hid (fun (W' : World) (v : Value) (hb : Below w5.heap.size w5 W') => (HS5.out.below hb).set HGG.out.2.2.1 (hlb ▸ HGG.out.2.2.2) v)
    clear HD5 l11 l0 l1 l2 k0 k1 k2 k3 k4 k5 k6 k7 k8 k9 k10 k11 HCF HP3 HS3 HW3
    go_region_held3 (fun w' => w'.cell? ⟨q, 11, none⟩ = some (.slice (some ⟨g, 0, none⟩) 1 kp) ∧ w'.cell? ⟨lb, 0, none⟩ = some (.int .i64 x) ∧ w'.cell? ⟨lb, 1, none⟩ = some (.int .i64 y) ∧ w'.cell? ⟨lb, 2, none⟩ = some (.int .i64 z)) (first | exact HKS.out _ _ HBc.out | exact HKB.out _ HBc.out | exact HKB.out _ (bdrew (bid _)))
    (first
      | (have _g := HR4; refine step_append_insRow rfl (.tmp 79) (.tmp 83) rfl rfl rfl HO4.out HR4.out (by decide) (Nat.le_of_ble_eq_true rfl) HBc.out.size 6 rfl ?_; intro g9 cap9 u9 ho9 hw9; have HO9 := hid ho9; have HBc := hid (own_below HBc.out HO4.out HBc.out.size hw9); obtain ⟨hk4, hk5⟩ := keeps HBc.out HV5.out.1 HV5.out.2.1; clear ho9 hw9)
      | (have _g := HRZ; refine step_append_insRow rfl (.tmp 74) (.tmp 78) rfl rfl rfl HO2.out HR2.out (by decide) (Nat.le_of_ble_eq_true rfl) HBc.out.size 4 rfl ?_; intro g3 cap3 u3 ho3 hw3; have HO4 := hid ho3; have HR4 := hid (Wrote.insRow HRZ.out hw3 (fun u hu _ e => by cases hu; exact HNE.out (Option.some.inj e))); have HBc := hid (own_below HBc.out HO2.out HBc.out.size hw3); clear ho3 hw3)
      | (refine step_append_insRow rfl (.tmp 74) (.tmp 78) rfl rfl rfl HO2.out HR2.out (by decide) (Nat.le_of_ble_eq_true rfl) HBc.out.size 4 rfl ?_; intro g3 cap3 u3 ho3 hw3; have HO3 := hid ho3; have HBc := hid (own_below HBc.out HO2.out HBc.out.size hw3); clear ho3 hw3)
      | (go_at_call 17; (with_reducible refine (HSx.out _).mono ?_); rintro e u1 ⟨v1, rfl, ho1, hb1⟩; obtain ⟨g1, c1, rfl, _, _, _, _, _⟩ := ho1.form (n := 2) rfl (by decide); have HO1 := hid ho1; have HBc := hid (bthen (bdrew (bid w5)) hb1); clear ho1 hb1)
      | (have _g := HO1; go_at_call 17; (with_reducible refine (HSy.out _).mono ?_); rintro e u2 ⟨v2, rfl, ho2, hb2⟩; obtain ⟨g2, c2, rfl, _, _, hr2, _, _⟩ := ho2.form (n := 2) rfl (by decide); have HR2 := hid hr2; have HO2 := hid (HO1.out.below hb2); have HBc := hid (bthen HBc.out hb2); clear ho2 hb2 hr2)
      | (have _g := HO3; go_at_call 17; (with_reducible refine (HSz.out _).mono ?_); rintro e u4 ⟨v4, rfl, ho4, hb4⟩; obtain ⟨g4, c4, rfl, _, _, hr4, _, _⟩ := ho4.form (n := 2) rfl (by decide); have HR4 := hid hr4; have HO4 := hid (HO3.out.below hb4); have HBc := hid (bthen HBc.out hb4); clear ho4 hb4 hr4)
      | (have _g := HR2; go_at_call 17; (with_reducible refine (HSz.out _).mono ?_); rintro e u4 ⟨v4, rfl, ho4, hb4⟩; obtain ⟨g4, c4, rfl, hg4, _, hr4, _, _⟩ := ho4.form (n := 2) rfl (by decide); have HRZ := hid hr4; have HNE := hid (show g1 ≠ g4 from fun e => by have h1 := (HO2.out.old (g := g1) rfl).2; omega); have HR2 := hid (HR2.out.below hb4); have HO2 := hid (HO2.out.below hb4); have HBc := hid (bthen HBc.out hb4); clear ho4 hb4 hr4 hg4))
    all_goals
      go_upto_region 9 with fail
      obtain ⟨g', c', e9, hg9, _, hr9, hc9, hm9⟩ := HO9.out.form (n := 6) rfl (by decide)
      cases e9
      have HPS := hid ((HP5.out.later HBc.out).set rfl (g := g) rfl hr9 hc9 hm9 (fun u hu => by cases hu; exact ⟨Nat.le_trans HP5.out.below.size hg9, fun e => by have h1 := HV5.out.2.2; have h2 : w5.heap.size ≤ g9 := hg9; dsimp only at e; omega⟩))
      refine wp_rename (fun W => PB w q { cc with progs := [prS x y z] } ⟨ai, ni, ki, al, nl, kl, ac, nc, kc, some ⟨g, 0, none⟩, 1, kp⟩ W) HPS.out ?_
      clear HPS
      intro W6 hpb
      have HP6 := hid hpb
      clear hpb
      go_wp2_with (first | (go_at_call 11; go_must (refine (told6_any _ (HE.out.below HP6.out.below)).mono ?_; rintro e w7 ⟨rfl, hb7⟩; have HP7 := hid (HP6.out.later hb7); obtain ⟨k0, k1, k2, k3, k4, k5, k6, k7, k8, k9, k10, k11⟩ := cfg_facts HP7.out.box; clear hb7)) | (go_at_call 15; go_must (have hcf := Config_any (sb := sb) { cc with progs := [prS x y z] } ⟨ai, ni, ki, al, nl, kl, ac, nc, kc, some ⟨g, 0, none⟩, 1, kp⟩ _ (HE.out.below HP7.out.below) HP7.out.built.cfgIn; rw [HN2.out] at hcf; refine hcf.mono ?_; rintro e w8 ⟨v8, rfl, ht8, hb8⟩; have hv8 : v8 = .nilIface := ht8; subst hv8; have HB8 := hid (bthen HP7.out.below hb8); clear ht8 hb8 hcf)))
      go_ret
      exact ⟨rfl, HB8.out⟩
  · rw [hF] at HCF
    have d1 : decide (x < y) = true := decide_eq_true h1
    have d2 : decide (y < z) = false := decide_eq_false h2
    clear hF h1 h2
    go_upto_region 5 with (go_at_call 15; go_must (refine HCF.out.mono ?_; rintro e w4 ⟨v4, rfl, ht, hb4⟩; obtain ⟨T4, b4, hv4⟩ := Tells.err ht; subst hv4; have HT := hid ht; have HD4 := hid hb4; have q4 := run_neq_err T4 (.pointer (some b4)); have q5 := run_eql_nil T4 (.pointer (some b4)); obtain ⟨l11, l0, l1, l2⟩ := HS3.out.below hb4; clear ht hb4))
    go_quiet (fail)
    go_upto_region 8 with (go_at_call 18; go_must (refine (Code_tells (HE.out.below (bdrewN (bthen HP3.out.below HD4.out))) (HT.out.below (bdrewN (bid w4)))).mono ?_; rintro e w5 ⟨rfl, hb5⟩; have HD5 := hid (bthen (bdrewN HD4.out) hb5); clear hb5))
    have HP5 := hid (HP3.out.later HD5.out)
    have HS5 := hid (HS3.out.below HD5.out)
    have HV5 := hid (show w5.cell? ⟨g, 0, none⟩ = some v3 ∧ w5.frozen? ⟨g, 0, none⟩ = false ∧ g < w5.heap.size from ⟨(keeps HD5.out HW3.out.1 HW3.out.2.1).1, (keeps HD5.out HW3.out.1 HW3.out.2.1).2, Nat.lt_of_lt_of_le HW3.out.2.2 HD5.out.size⟩)
    have HKB := hid (fun (W' : World) (hb : Below w5.heap.size w5 W') => HS5.out.below hb)
    have HKS := hid (fun (W' : World) (v : Value) (hb : Below w5.heap.size w5 W') => (HS5.out.below hb).set HGG.out.2.2.1 (hlb ▸ HGG.out.2.2.2) v)
    clear HD5 l11 l0 l1 l2 k0 k1 k2 k3 k4 k5 k6 k7 k8 k9 k10 k11 HCF HP3 HS3 HW3
    go_region_held3 (fun w' => w'.cell? ⟨q, 11, none⟩ = some (.slice (some ⟨g, 0, none⟩) 1 kp) ∧ w'.cell? ⟨lb, 0, none⟩ = some (.int .i64 x) ∧ w'.cell? ⟨lb, 1, none⟩ = some (.int .i64 y) ∧ w'.cell? ⟨lb, 2, none⟩ = some (.int .i64 z)) (first | exact HKS.out _ _ HBc.out | exact HKB.out _ HBc.out | exact HKB.out _ (bdrew (bid _)))
    (first
      | (have _g := HR4; refine step_append_insRow rfl (.tmp 79) (.tmp 83) rfl rfl rfl HO4.out HR4.out (by decide) (Nat.le_of_ble_eq_true rfl) HBc.out.size 6 rfl ?_; intro g9 cap9 u9 ho9 hw9; have HO9 := hid ho9; have HBc := hid (own_below HBc.out HO4.out HBc.out.size hw9); obtain ⟨hk4, hk5⟩ := keeps HBc.out HV5.out.1 HV5.out.2.1; clear ho9 hw9)
      | (have _g := HRZ; refine step_append_insRow rfl (.tmp 74) (.tmp 78) rfl rfl rfl HO2.out HR2.out (by decide) (Nat.le_of_ble_eq_true rfl) HBc.out.size 4 rfl ?_; intro g3 cap3 u3 ho3 hw3; have HO4 := hid ho3; have HR4 := hid (Wrote.insRow HRZ.out hw3 (fun u hu _ e => by cases hu; exact HNE.out (Option.some.inj e))); have HBc := hid (own_below HBc.out HO2.out HBc.out.size hw3); clear ho3 hw3)
      | (refine step_append_insRow rfl (.tmp 74) (.tmp 78) rfl rfl rfl HO2.out HR2.out (by decide) (Nat.le_of_ble_eq_true rfl) HBc.out.size 4 rfl ?_; intro g3 cap3 u3 ho3 hw3; have HO3 := hid ho3; have HBc := hid (own_below HBc.out HO2.out HBc.out.size hw3); clear ho3 hw3)
      | (go_at_call 17; (with_reducible refine (HSx.out _).mono ?_); rintro e u1 ⟨v1, rfl, ho1, hb1⟩; obtain ⟨g1, c1, rfl, _, _, _, _, _⟩ := ho1.form (n := 2) rfl (by decide); have HO1 := hid ho1; have HBc := hid (bthen (bdrew (bid w5)) hb1); clear ho1 hb1)
      | (have _g := HO1; go_at_call 17; (with_reducible refine (HSy.out _).mono ?_); rintro e u2 ⟨v2, rfl, ho2, hb2⟩; obtain ⟨g2, c2, rfl, _, _, hr2, _, _⟩ := ho2.form (n := 2) rfl (by decide); have HR2 := hid hr2; have HO2 := hid (HO1.out.below hb2); have HBc := hid (bthen HBc.out hb2); clear ho2 hb2 hr2)
      | (have _g := HO3; go_at_call 17; (with_reducible refine (HSz.out _).mono ?_); rintro e u4 ⟨v4, rfl, ho4, hb4⟩; obtain ⟨g4, c4, rfl, _, _, hr4, _, _⟩ := ho4.form (n := 2) rfl (by decide); have HR4 := hid hr4; have HO4 := hid (HO3.out.below hb4); have HBc := hid (bthen HBc.out hb4); clear ho4 hb4 hr4)
      | (have _g := HR2; go_at_call 17; (with_reducible refine (HSz.out _).mono ?_); rintro e u4 ⟨v4, rfl, ho4, hb4⟩; obtain ⟨g4, c4, rfl, hg4, _, hr4, _, _⟩ := ho4.form (n := 2) rfl (by decide); have HRZ := hid hr4; have HNE := hid (show g1 ≠ g4 from fun e => by have h1 := (HO2.out.old (g := g1) rfl).2; omega); have HR2 := hid (HR2.out.below hb4); have HO2 := hid (HO2.out.below hb4); have HBc := hid (bthen HBc.out hb4); clear ho4 hb4 hr4 hg4))
    all_goals
      go_upto_region 9 with fail
      obtain ⟨g', c', e9, hg9, _, hr9, hc9, hm9⟩ := HO9.out.form (n := 6) rfl (by decide)
      cases e9
      have HPS := hid ((HP5.out.later HBc.out).set rfl (g := g) rfl hr9 hc9 hm9 (fun u hu => by cases hu; exact ⟨Nat.le_trans HP5.out.below.size hg9, fun e => by have h1 := HV5.out.2.2; have h2 : w5.heap.size ≤ g9 := hg9; dsimp only at e; omega⟩))
      refine wp_rename (fun W => PB w q { cc with progs := [prS x y z] } ⟨ai, ni, ki, al, nl, kl, ac, nc, kc, some ⟨g, 0, none⟩, 1, kp⟩ W) HPS.out ?_
      clear HPS
      intro W6 hpb
      have HP6 := hid hpb
      clear hpb
      go_wp2_with (first | (go_at_call 11; go_must (refine (told6_any _ (HE.out.below HP6.out.below)).mono ?_; rintro e w7 ⟨rfl, hb7⟩; have HP7 := hid (HP6.out.later hb7); obtain ⟨k0, k1, k2, k3, k4, k5, k6, k7, k8, k9, k10, k11⟩ := cfg_facts HP7.out.box; clear hb7)) | (go_at_call 15; go_must (have hcf := Config_any (sb := sb) { cc with progs := [prS x y z] } ⟨ai, ni, ki, al, nl, kl, ac, nc, kc, some ⟨g, 0, none⟩, 1, kp⟩ _ (HE.out.below HP7.out.below) HP7.out.built.cfgIn; rw [HN2.out] at hcf; refine hcf.mono ?_; rintro e w8 ⟨v8, rfl, ht8, hb8⟩; have hv8 : v8 = .nilIface := ht8; subst hv8; have HB8 := hid (bthen HP7.out.below hb8); clear ht8 hb8 hcf)))
      go_ret
      exact ⟨rfl, HB8.out⟩
  · rw [hF] at HCF
    have d1 : decide (x < y) = false := decide_eq_false h1
    clear hF h1
    go_upto_region 5 with (go_at_call 15; go_must (refine HCF.out.mono ?_; rintro e w4 ⟨v4, rfl, ht, hb4⟩; obtain ⟨T4, b4, hv4⟩ := Tells.err ht; subst hv4; have HT := hid ht; have HD4 := hid hb4; have q4 := run_neq_err T4 (.pointer (some b4)); have q5 := run_eql_nil T4 (.pointer (some b4)); obtain ⟨l11, l0, l1, l2⟩ := HS3.out.below hb4; clear ht hb4))
    go_quiet (fail)
    go_upto_region 8 with (go_at_call 18; go_must (refine (Code_tells (HE.out.below (bdrewN (bthen HP3.out.below HD4.out))) (HT.out.below (bdrewN (bid w4)))).mono ?_; rintro e w5 ⟨rfl, hb5⟩; have HD5 := hid (bthen (bdrewN HD4.out) hb5); clear hb5))
    have HP5 := hid (HP3.out.later HD5.out)
    have HS5 := hid (HS3.out.below HD5.out)
    have HV5 := hid (show w5.cell? ⟨g, 0, none⟩ = some v3 ∧ w5.frozen? ⟨g, 0, none⟩ = false ∧ g < w5.heap.size from ⟨(keeps HD5.out HW3.out.1 HW3.out.2.1).1, (keeps HD5.out HW3.out.1 HW3.out.2.1).2, Nat.lt_of_lt_of_le HW3.out.2.2 HD5.out.size⟩)
    have HKB := hid (fun (W' : World) (hb : Below w5.heap.size w5 W') => HS5.out.below hb)
    have HKS := hid (fun (W' : World) (v : Value) (hb : Below w5.heap.size w5 W') => (HS5.out.below hb).set HGG.out.2.2.1 (hlb ▸ HGG.out.2.2.2) v)
    clear HD5 l11 l0 l1 l2 k0 k1 k2 k3 k4 k5 k6 k7 k8 k9 k10 k11 HCF HP3 HS3 HW3
    go_region_held3 (fun w' => w'.cell? ⟨q, 11, none⟩ = some (.slice (some ⟨g, 0, none⟩) 1 kp) ∧ w'.cell? ⟨lb, 0, none⟩ = some (.int .i64 x) ∧ w'.cell? ⟨lb, 1, none⟩ = some (.int .i64 y) ∧ w'.cell? ⟨lb, 2, none⟩ = some (.int .i64 z)) (first | exact HKS.out _ _ HBc.out | exact HKB.out _ HBc.out | exact HKB.out _ (bdrew (bid _)))
    (first
      | (have _g := HR4; refine step_append_insRow rfl (.tmp 79) (.tmp 83) rfl rfl rfl HO4.out HR4.out (by decide) (Nat.le_of_ble_eq_true rfl) HBc.out.size 6 rfl ?_; intro g9 cap9 u9 ho9 hw9; have HO9 := hid ho9; have HBc := hid (own_below HBc.out HO4.out HBc.out.size hw9); obtain ⟨hk4, hk5⟩ := keeps HBc.out HV5.out.1 HV5.out.2.1; clear ho9 hw9)
      | (have _g := HRZ; refine step_append_insRow rfl (.tmp 74) (.tmp 78) rfl rfl rfl HO2.out HR2.out (by decide) (Nat.le_of_ble_eq_true rfl) HBc.out.size 4 rfl ?_; intro g3 cap3 u3 ho3 hw3; have HO4 := hid ho3; have HR4 := hid (Wrote.insRow HRZ.out hw3 (fun u hu _ e => by cases hu; exact HNE.out (Option.some.inj e))); have HBc := hid (own_below HBc.out HO2.out HBc.out.size hw3); clear ho3 hw3)
      | (refine step_append_insRow rfl (.tmp 74) (.tmp 78) rfl rfl rfl HO2.out HR2.out (by decide) (Nat.le_of_ble_eq_true rfl) HBc.out.size 4 rfl ?_; intro g3 cap3 u3 ho3 hw3; have HO3 := hid ho3; have HBc := hid (own_below HBc.out HO2.out HBc.out.size hw3); clear ho3 hw3)
      | (go_at_call 17; (with_reducible refine (HSx.out _).mono ?_); rintro e u1 ⟨v1, rfl, ho1, hb1⟩; obtain ⟨g1, c1, rfl, _, _, _, _, _⟩ := ho1.form (n := 2) rfl (by decide); have HO1 := hid ho1; have HBc := hid (bthen (bdrew (bid w5)) hb1); clear ho1 hb1)
      | (have _g := HO1; go_at_call 17; (with_reducible refine (HSy.out _).mono ?_); rintro e u2 ⟨v2, rfl, ho2, hb2⟩; obtain ⟨g2, c2, rfl, _, _, hr2, _, _⟩ := ho2.form (n := 2) rfl (by decide); have HR2 := hid hr2; have HO2 := hid (HO1.out.below hb2); have HBc := hid (bthen HBc.out hb2); clear ho2 hb2 hr2)
      | (have _g := HO3; go_at_call 17; (with_reducible refine (HSz.out _).mono ?_); rintro e u4 ⟨v4, rfl, ho4, hb4⟩; obtain ⟨g4, c4, rfl, _, _, hr4, _, _⟩ := ho4.form (n := 2) rfl (by decide); have HR4 := hid hr4; have HO4 := hid (HO3.out.below hb4); have HBc := hid (bthen HBc.out hb4); clear ho4 hb4 hr4)
      | (have _g := HR2; go_at_call 17; (with_reducible refine (HSz.out _).mono ?_); rintro e u4 ⟨v4, rfl, ho4, hb4⟩; obtain ⟨g4, c4, rfl, hg4, _, hr4, _, _⟩ := ho4.form (n := 2) rfl (by decide); have HRZ := hid hr4; have HNE := hid (show g1 ≠ g4 from fun e => by have h1 := (HO2.out.old (g := g1) rfl).2; omega); have HR2 := hid (HR2.out.below hb4); have HO2 := hid (HO2.out.below hb4); have HBc := hid (bthen HBc.out hb4); clear ho4 hb4 hr4 hg4))
    all_goals
      go_upto_region 9 with fail
      obtain ⟨g', c', e9, hg9, _, hr9, hc9, hm9⟩ := HO9.out.form (n := 6) rfl (by decide)
      cases e9
      have HPS := hid ((HP5.out.later HBc.out).set rfl (g := g) rfl hr9 hc9 hm9 (fun u hu => by cases hu; exact ⟨Nat.le_trans HP5.out.below.size hg9, fun e => by have h1 := HV5.out.2.2; have h2 : w5.heap.size ≤ g9 := hg9; dsimp only at e; omega⟩))
      refine wp_rename (fun W => PB w q { cc with progs := [prS x y z] } ⟨ai, ni, ki, al, nl, kl, ac, nc, kc, some ⟨g, 0, none⟩, 1, kp⟩ W) HPS.out ?_
      clear HPS
      intro W6 hpb
      have HP6 := hid hpb
      clear hpb
      go_wp2_with (first | (go_at_call 11; go_must (refine (told6_any _ (HE.out.below HP6.out.below)).mono ?_; rintro e w7 ⟨rfl, hb7⟩; have HP7 := hid (HP6.out.later hb7); obtain ⟨k0, k1, k2, k3, k4, k5, k6, k7, k8, k9, k10, k11⟩ := cfg_facts HP7.out.box; clear hb7)) | (go_at_call 15; go_must (have hcf := Config_any (sb := sb) { cc with progs := [prS x y z] } ⟨ai, ni, ki, al, nl, kl, ac, nc, kc, some ⟨g, 0, none⟩, 1, kp⟩ _ (HE.out.below HP7.out.below) HP7.out.built.cfgIn; rw [HN2.out] at hcf; refine hcf.mono ?_; rintro e w8 ⟨v8, rfl, ht8, hb8⟩; have hv8 : v8 = .nilIface := ht8; subst hv8; have HB8 := hid (bthen HP7.out.below hb8); clear ht8 hb8 hcf)))
      go_ret
      exact ⟨rfl, HB8.out⟩

end Go.Proofs.YtmogdgdedmlokaaDoor
