/-
  Layer 6's Build: what a run begins with, out of numbers.
-/
import Derived.Test.YtblalejegjieaaaGreatDoorKBuilt
namespace Go.Proofs.YtblalejegjieaaaGreatDoor
open Go.RowKit
set_option linter.unusedVariables false

structure K8 where
  (k0 k1 k2 k3 k4 k5 k6 k7 : Int)
@[reducible] def K8.v (k : K8) : Value := .agg #[.int .i64 k.k0, .int .i64 k.k1, .int .i64 k.k2, .int .i64 k.k3, .int .i64 k.k4, .int .i64 k.k5, .int .i64 k.k6, .int .i64 k.k7]
/-- The numbers at first. -/
def num0 (k : K8) : Cfg := ⟨1 + pickF k.k0 2, 1 + pickF k.k1 2, 1 + pickF k.k2 7, 32 - pickF k.k3 4 * 9, 1 + pickF k.k4 12, pickF k.k5 4, 20 + pickF k.k6 60, 1073741824, [], [], []⟩
@[reducible] def cv0 : CV := ⟨none, 0, 0, none, 0, 0, none, 0, 0, none, 0, 0⟩

/-- What lies while it is built. -/
structure BSt (w : World) (k : K8) (c : Cfg) (s : CV) (W : World) : Prop where
  ks : W.heap[w.heap.size]? = some (.cells #[.int .i64 k.k0, .int .i64 k.k1, .int .i64 k.k2, .int .i64 k.k3, .int .i64 k.k4, .int .i64 k.k5, .int .i64 k.k6, .int .i64 k.k7] 22 (0, 0))
  res : W.heap[w.heap.size + 1]? = some (.cells ((Cfg.mk 0 0 0 0 0 0 0 0 [] [] []).cs cv0) 34 (0, 0))
  box : CfgBox W (w.heap.size + 1 + 1) c s
  below : Below w.heap.size w W
theorem BSt.later {w W W' : World} {k : K8} {c : Cfg} {s : CV} (h : BSt w k c s W) (hb : Below W.heap.size W W') : BSt w k c s W' :=
  ⟨(hb.block _ (lt_of_block h.ks)).trans h.ks, (hb.block _ (lt_of_block h.res)).trans h.res, h.box.below hb, bthen h.below hb⟩
theorem BSt.wrote {S : Nat → Prop} {w W W' : World} {k : K8} {c : Cfg} {s : CV} (h : BSt w k c s W) (hw : Wrote S W W') (hs : ∀ x, x ≤ w.heap.size + 1 + 1 → ¬ S x) : BSt w k c s W' :=
  ⟨(hw.block _ (lt_of_block h.ks) (hs _ (by omega))).trans h.ks, (hw.block _ (lt_of_block h.res) (hs _ (by omega))).trans h.res, (hw.block _ (lt_of_block h.box) (hs _ (by omega))).trans h.box, h.below.trans (hw.below h.below.size fun j hj => hs j (by omega))⟩
theorem BSt.put {w W : World} {k : K8} {c c' : Cfg} {s s' : CV} (h : BSt w k c s W) (i : Nat) (u : Value) (he : (c.cs s).setIfInBounds i u = c'.cs s') : BSt w k c' s' (W.setCell ⟨w.heap.size + 1 + 1, i, none⟩ u) := by
  have hw : Wrote (fun b => b = w.heap.size + 1 + 1) W (W.setCell ⟨w.heap.size + 1 + 1, i, none⟩ u) := Wrote.setCell (S := fun b => b = w.heap.size + 1 + 1) (Wrote.refl _ W) (p := ⟨w.heap.size + 1 + 1, i, none⟩) (fun _ => rfl) _
  refine ⟨(hw.block _ (lt_of_block h.ks) (by omega)).trans h.ks, (hw.block _ (lt_of_block h.res) (by omega)).trans h.res, ?_, h.below.setCell (by dsimp only; omega) _⟩
  have := blk_setCell h.box i u
  rw [he] at this
  exact this
theorem BSt.keep {w W : World} {k : K8} {c : Cfg} {s : CV} (h : BSt w k c s W) (i : Nat) (u : Value) : Wrote (fun b => b = w.heap.size + 1 + 1) W (W.setCell ⟨w.heap.size + 1 + 1, i, none⟩ u) :=
  Wrote.setCell (S := fun b => b = w.heap.size + 1 + 1) (Wrote.refl _ W) (p := ⟨w.heap.size + 1 + 1, i, none⟩) (fun _ => rfl) _
theorem BSt.kf {w W : World} {k : K8} {c : Cfg} {s : CV} (h : BSt w k c s W) :
    W.cell? ⟨w.heap.size, 0, none⟩ = some (.int .i64 k.k0) ∧ W.cell? ⟨w.heap.size, 1, none⟩ = some (.int .i64 k.k1) ∧ W.cell? ⟨w.heap.size, 2, none⟩ = some (.int .i64 k.k2) ∧ W.cell? ⟨w.heap.size, 3, none⟩ = some (.int .i64 k.k3) ∧ W.cell? ⟨w.heap.size, 4, none⟩ = some (.int .i64 k.k4) ∧ W.cell? ⟨w.heap.size, 5, none⟩ = some (.int .i64 k.k5) ∧ W.cell? ⟨w.heap.size, 6, none⟩ = some (.int .i64 k.k6) ∧ W.cell? ⟨w.heap.size, 7, none⟩ = some (.int .i64 k.k7) :=
  ⟨cell_of_blk h.ks 0, cell_of_blk h.ks 1, cell_of_blk h.ks 2, cell_of_blk h.ks 3, cell_of_blk h.ks 4, cell_of_blk h.ks 5, cell_of_blk h.ks 6, cell_of_blk h.ks 7⟩
theorem BSt.new (w : World) (k : K8) : BSt w k (num0 k) cv0 ((((w.alloc (.cells #[.int .i64 k.k0, .int .i64 k.k1, .int .i64 k.k2, .int .i64 k.k3, .int .i64 k.k4, .int .i64 k.k5, .int .i64 k.k6, .int .i64 k.k7] 22)).alloc (.cells ((Cfg.mk 0 0 0 0 0 0 0 0 [] [] []).cs cv0) 34)).alloc (.cells ((num0 k).cs cv0) 34)).drew) := by
  refine ⟨?_, ?_, ?_, bdrew (bnew (bnew (bnew (bid w) _) _) _)⟩
  · refine Eq.trans (b := (World.heap (World.alloc (World.alloc (World.alloc w _) _) _))[w.heap.size]?) rfl ?_
    rw [Below.heap_alloc _ _ _ (by simp; omega), Below.heap_alloc _ _ _ (by simp)]
    exact heap_alloc_new _ _
  · refine Eq.trans (b := (World.heap (World.alloc (World.alloc (World.alloc w _) _) _))[w.heap.size + 1]?) rfl ?_
    rw [Below.heap_alloc _ _ _ (by simp)]
    exact heap_alloc_new1 _ _ _
  · have := heap_alloc_new ((w.alloc (.cells #[.int .i64 k.k0, .int .i64 k.k1, .int .i64 k.k2, .int .i64 k.k3, .int .i64 k.k4, .int .i64 k.k5, .int .i64 k.k6, .int .i64 k.k7] 22)).alloc (.cells ((Cfg.mk 0 0 0 0 0 0 0 0 [] [] []).cs cv0) 34)) (.cells ((num0 k).cs cv0) 34)
    rw [size_alloc2] at this
    exact this

theorem i64_of {x : Int} (h0 : -9223372036854775808 ≤ x) (h1 : x ≤ 9223372036854775807) : IntKind.i64.wrap x = x := by
  unfold IntKind.wrap
  simp [IntKind.bits, IntKind.signed]
  omega
/-- Where it stands behind its first statements. -/
def mostF (k : K8) : Int := if pickF k.k7 4 = 1 then pickF (wrap64 (k.k7.tdiv 4)) 12 else 1073741824
def wrsF (k : K8) : Int := if 0 < pickF k.k4 5 then 32 else 1 + pickF k.k4 12
def num1 (k : K8) : Cfg := { num0 k with most := mostF k }
def num2 (k : K8) : Cfg := { num0 k with most := mostF k, wrs := wrsF k }
def oneF (k : K8) : Int := 1 + pickF (wrap64 (k.k0.tdiv 2)) 2
def initF (j : Nat) : List Int := (List.range j).map fun i => (((i : Nat) : Int) % 4)
theorem initF_len (j : Nat) : (initF j).length = j := by simp [initF]
theorem initF_succ (j : Nat) : initF j ++ [((j : Nat) : Int) % 4] = initF (j + 1) := by simp [initF, List.range_succ]
def locksF (k : K8) : List Lk := [⟨oneF k, 0, 3⟩, ⟨3 - oneF k, 3, 3⟩, ⟨3, 6, 3⟩]
/-- With its locks, conditions, programs. -/
def num3 (k : K8) (ps : List (List Ins)) : Cfg := { num0 k with most := mostF k, wrs := wrsF k, locks := locksF k, conds := [0, 1, 2], progs := ps }
def progs6 (zss : List (List Int)) : List (List Ins) := if zss.length = 0 then [[]] else (zss.take 3).map prog6F
/-- What a run begins with, out of numbers. -/
def build6 (k : K8) (zss : List (List Int)) : Cfg := num3 k (progs6 zss)

/-- A slice of slices of integers. -/
structure RowsRow (w : World) (a : Option Addr) (n : Nat) (zss : List (List Int)) : Prop where
  cnt : zss.length = n
  row : n = 0 ∨ ∃ b off, a = some ⟨b, off, none⟩ ∧ b < w.heap.size ∧ ∀ k zs, zss[k]? = some zs → zs.length ≤ 1000000 ∧ ∃ ra rc, w.cell? ⟨b, off + k, none⟩ = some (.slice ra zs.length rc) ∧ IntRow w ra zs.length zs
theorem RowsRow.below {w w' : World} {a : Option Addr} {n : Nat} {zss : List (List Int)} (h : RowsRow w a n zss) (hb : Below w.heap.size w w') : RowsRow w' a n zss := by
  refine ⟨h.cnt, ?_⟩
  rcases h.row with h' | ⟨b, off, h1, h2, h3⟩
  · exact .inl h'
  · refine .inr ⟨b, off, h1, Nat.lt_of_lt_of_le h2 hb.size, fun k zs hk => ?_⟩
    obtain ⟨q0, ra, rc, q1, q2⟩ := h3 k zs hk
    exact ⟨q0, ra, rc, (hb.cell (p := ⟨b, off + k, none⟩) h2).trans q1, q2.below hb⟩
theorem RowsRow.at {w : World} {a : Option Addr} {n : Nat} {zss : List (List Int)} (h : RowsRow w a n zss) {k : Nat} (hk : k < n) :
    ∃ b off zs ra rc, a = some ⟨b, off, none⟩ ∧ b < w.heap.size ∧ zss[k]? = some zs ∧ zs.length ≤ 1000000 ∧ w.cell? ⟨b, off + k, none⟩ = some (.slice ra zs.length rc) ∧ IntRow w ra zs.length zs := by
  have hl : k < zss.length := by rw [h.cnt]; exact hk
  rcases h.row with h' | ⟨b, off, h1, h2, h3⟩
  · omega
  · obtain ⟨q0, ra, rc, q1, q2⟩ := h3 k zss[k] (List.getElem?_eq_getElem hl)
    exact ⟨b, off, zss[k], ra, rc, h1, h2, List.getElem?_eq_getElem hl, q0, q1, q2⟩

/-- What is handed back. -/
def BuildRet (c : Cfg) (w : World) (e : Ending) (w' : World) : Prop := ∃ s, e = .returned (c.v s) ∧ Built w.heap.size c s (initF 9) w' ∧ s.ni = 9 ∧ Below w.heap.size w w'

set_option maxRecDepth 100000 in
set_option maxHeartbeats 16000000 in
theorem Build_any (k : K8) (a : Option Addr) (n c : Nat) (zss : List (List Int)) (w : World) (hr : RowsRow w a n zss) (hn : n ≤ 1000000) :
    Calls Tryz.prog 7 #[k.v, .slice a n c] w (BuildRet (build6 k zss) w) := by
  obtain ⟨iJ, hj, hj0, hj1, hj2⟩ := info_parts info64
  have HRR := hid hr
  clear hr
  have HINF : Hid ((Tryz.prog.info? 34).map (·.size) = some 12) := hid (by kernel_rfl)
  have HS := hid (BSt.new w k)
  go_enter Tryz.func7, Tryz.ntmps7
  go_upto_region 1 with fail
  go_cut [5] (fun s5 wx => s5 = .pointer (some ⟨w.heap.size + 1 + 1, 0, none⟩) ∧ BSt w k (num0 k) cv0 wx)
  case first =>
    have HKB : Hid (((w.alloc (.cells #[.int .i64 k.k0, .int .i64 k.k1, .int .i64 k.k2, .int .i64 k.k3, .int .i64 k.k4, .int .i64 k.k5, .int .i64 k.k6, .int .i64 k.k7] 22)).alloc (.cells ((Cfg.mk 0 0 0 0 0 0 0 0 [] [] []).cs cv0) 34)).heap[w.heap.size]? = some (.cells #[.int .i64 k.k0, .int .i64 k.k1, .int .i64 k.k2, .int .i64 k.k3, .int .i64 k.k4, .int .i64 k.k5, .int .i64 k.k6, .int .i64 k.k7] 22 (0, 0))) := hid (by
      rw [Below.heap_alloc _ _ _ (by simp)]
      exact heap_alloc_new _ _)
    have g0 := pickF_in (x := k.k0) (n := 2) (by decide)
    have g1 := pickF_in (x := k.k1) (n := 2) (by decide)
    have g2 := pickF_in (x := k.k2) (n := 7) (by decide)
    have g3 := pickF_in (x := k.k3) (n := 4) (by decide)
    have g4 := pickF_in (x := k.k4) (n := 12) (by decide)
    have g5 := pickF_in (x := k.k5) (n := 4) (by decide)
    have g6 := pickF_in (x := k.k6) (n := 60) (by decide)
    have E0 := hid (i64_of (x := 1 + pickF k.k0 2) (by omega) (by omega))
    have E1 := hid (i64_of (x := 1 + pickF k.k1 2) (by omega) (by omega))
    have E2 := hid (i64_of (x := 1 + pickF k.k2 7) (by omega) (by omega))
    have E3 := hid (show IntKind.i64.wrap (32 - IntKind.i64.wrap (pickF k.k3 4 * 9)) = 32 - pickF k.k3 4 * 9 by rw [i64_of (x := pickF k.k3 4 * 9) (by omega) (by omega)]; exact i64_of (by omega) (by omega))
    have E4 := hid (i64_of (x := 1 + pickF k.k4 12) (by omega) (by omega))
    have E5 := hid True.intro
    have E6 := hid (i64_of (x := 20 + pickF k.k6 60) (by omega) (by omega))
    have K0 := cell_of_blk HKB.out 0
    have K1 := cell_of_blk HKB.out 1
    have K2 := cell_of_blk HKB.out 2
    have K3 := cell_of_blk HKB.out 3
    have K4 := cell_of_blk HKB.out 4
    have K5 := cell_of_blk HKB.out 5
    have K6 := cell_of_blk HKB.out 6
    have K7 := cell_of_blk HKB.out 7
    simp only [List.getElem?_toArray, List.getElem?_cons_zero, List.getElem?_cons_succ] at K0 K1 K2 K3 K4 K5 K6 K7
    go_region_held3 (fun w' => w'.cell? ⟨w.heap.size, 0, none⟩ = some (.int .i64 k.k0) ∧ w'.cell? ⟨w.heap.size, 1, none⟩ = some (.int .i64 k.k1) ∧ w'.cell? ⟨w.heap.size, 2, none⟩ = some (.int .i64 k.k2) ∧ w'.cell? ⟨w.heap.size, 3, none⟩ = some (.int .i64 k.k3) ∧ w'.cell? ⟨w.heap.size, 4, none⟩ = some (.int .i64 k.k4) ∧ w'.cell? ⟨w.heap.size, 5, none⟩ = some (.int .i64 k.k5) ∧ w'.cell? ⟨w.heap.size, 6, none⟩ = some (.int .i64 k.k6) ∧ w'.cell? ⟨w.heap.size, 7, none⟩ = some (.int .i64 k.k7)) (first | exact ⟨K0, K1, K2, K3, K4, K5, K6, K7⟩ | go_keep) ((go_at_call 9; refine (pick6_any _ _ _ (by decide) (by decide)).mono ?_; rintro e w' ⟨rfl, rfl⟩))
    all_goals
      go_wp2
      go_meet
      case rel =>
        refine ⟨rfl, ?_⟩
        rw [E0.out, E1.out, E2.out, E3.out, E4.out, E6.out]
        exact HS.out
  case rest =>
    obtain ⟨rfl, hst⟩ := hcut
    have HST := hid hst
    obtain ⟨q0, q1, q2, q3, q4, q5, q6, q7⟩ := hst.kf
    clear hst HS
    have f7 := frozen_of_blk HST.out.box 7
    have r7 := cell_of_blk HST.out.box 7
    go_upto_if 41 with (go_at_call 9; refine (pick6_any _ _ _ (by decide) (by decide)).mono ?_; rintro e w' ⟨rfl, rfl⟩)
    go_cut [] (fun wx => BSt w k (num1 k) cv0 wx)
    case first =>
      have HM : Hid (mostF k = if pickF k.k7 4 = 1 then pickF (wrap64 (k.k7.tdiv 4)) 12 else 1073741824) := hid rfl
      by_cases h1 : pickF k.k7 4 = 1
      · have HM1 := hid (HM.out.trans (if_pos h1))
        go_wp2_with (go_at_call 9; refine (pick6_any _ _ _ (by decide) (by decide)).mono ?_; rintro e w' ⟨rfl, rfl⟩)
        go_meet
        case rel =>
          unfold num1
          rw [HM1.out]
          exact HST.out.put 7 _ rfl
      · have HM1 := hid (HM.out.trans (if_neg h1))
        go_wp2
        go_meet
        case rel =>
          unfold num1
          rw [HM1.out]
          exact HST.out
    case rest =>
    have HST := hid hcut
    obtain ⟨q0, q1, q2, q3, q4, q5, q6, q7⟩ := hcut.kf
    clear hcut f7 r7
    have f4 := frozen_of_blk HST.out.box 4
    have r4 := cell_of_blk HST.out.box 4
    go_upto_if 50 with (go_at_call 9; refine (pick6_any _ _ _ (by decide) (by decide)).mono ?_; rintro e w' ⟨rfl, rfl⟩)
    go_cut [] (fun wx => BSt w k (num2 k) cv0 wx)
    case first =>
      have HM : Hid (wrsF k = if 0 < pickF k.k4 5 then 32 else 1 + pickF k.k4 12) := hid rfl
      by_cases h1 : 0 < pickF k.k4 5
      · have HM1 := hid (HM.out.trans (if_pos h1))
        go_wp2
        go_meet
        case rel =>
          unfold num2
          rw [HM1.out]
          exact HST.out.put 4 _ rfl
      · have HM1 := hid (HM.out.trans (if_neg h1))
        go_wp2
        go_meet
        case rel =>
          unfold num2
          rw [HM1.out]
          exact HST.out
    case rest =>
    have HST := hid hcut
    clear hcut f4 r4
    go_wp2
    go_loopw [6] (fun i wr => ∃ (j : Nat) (ai : Option Addr) (ki : Nat), j ≤ 9 ∧ i = .int .i64 j ∧ OwnInt 2 (w.heap.size + 1 + 1 + 1) (.slice ai j ki) (initF j) wr ∧ BSt w k (num2 k) { cv0 with ai := ai, ni := j, ki := ki } wr) (fun i _ => 9 - (intOf i).toNat)
    case atStart => exact ⟨0, none, 0, Nat.zero_le _, rfl, OwnInt.nil _ _ _, HST.out⟩
    case round =>
      clear HST
      obtain ⟨j, ai, ki, hj9, rfl, how, hst⟩ := hrel
      have HO := hid how
      have HST := hid hst
      have f8 := frozen_of_blk HST.out.box 8
      have r8 := cell_of_blk HST.out.box 8
      simp only [Cfg.cs, List.getElem?_toArray, List.getElem?_cons_zero, List.getElem?_cons_succ] at r8
      clear how hst q0 q1 q2 q3 q4 q5 q6 q7
      by_cases hlt : j < 9
      · have i1 : (j : Int) < 9 := by omega
        have i0 : (0 : Int) ≤ (j : Int) := by omega
        have E6 : Hid ((initF j).length ≤ 1000) := hid (by rw [initF_len]; omega)
        have HBB := hid (show w.heap.size + 1 + 1 + 1 ≤ wr.heap.size from lt_of_block HST.out.box)
        go_wp2_with (at_builtin; go_must (refine wpList_append_int1 rfl (.tmp 57) (.tmp 60) 29 rfl Tryz.underlying29 hj hj0 hj1 hj2 rfl HO.out _ rfl E6.out HBB.out ?_; intro v' w' hown hat hw; rw [initF_succ] at hown; obtain ⟨ai', ki', rfl, -⟩ := hown.shape; rw [initF_len] at hown ⊢; have HO2 := hid hown; have HS2 := hid (HST.out.wrote hw (fun x hx e => by have := (HO.out.old e).1; omega)); have f8' := frozen_of_blk HS2.out.box 8; have r8' := cell_of_blk HS2.out.box 8; simp only [Cfg.cs, List.getElem?_toArray, List.getElem?_cons_zero, List.getElem?_cons_succ] at r8'; clear hown hat hw))
        go_roundw
        case rel => exact ⟨j + 1, ai', ki', by omega, by go_num, HO2.out.kept (HS2.out.keep 8 _) (fun x hx e => by have := (HO2.out.old hx).1; omega), HS2.out.put 8 _ rfl⟩
        case measure => simp [intOf]; omega
      · have e : j = 9 := by omega
        subst e
        clear hlt hj9 f8 r8
        obtain ⟨q0, q1, q2, q3, q4, q5, q6, q7⟩ := HST.out.kf
        have f9 := frozen_of_blk HST.out.box 9
        have r9 := cell_of_blk HST.out.box 9
        simp only [Cfg.cs, List.getElem?_toArray, List.getElem?_cons_zero, List.getElem?_cons_succ] at r9
        have HONE : Hid (oneF k = 1 + pickF (wrap64 (k.k0.tdiv 2)) 2) := hid rfl
        have ho := pickF_in (x := wrap64 (k.k0.tdiv 2)) (n := 2) (by decide)
        obtain ⟨hoa, hob⟩ := ho
        go_upto_region 11 with (go_at_call 9; refine (pick6_any _ _ _ (by decide) (by decide)).mono ?_; rintro e w' ⟨rfl, rfl⟩)
        have ho2 : 1 ≤ oneF k ∧ oneF k ≤ 2 := by rw [HONE.out]; omega
        rw [← HONE.out]
        obtain ⟨o1, o2⟩ := ho2
        have HLK : Hid (locksF k = [⟨oneF k, 0, 3⟩, ⟨3 - oneF k, 3, 3⟩, ⟨3, 6, 3⟩]) := hid rfl
        clear hoa hob HONE
        have hb2 : w.heap.size + 1 + 1 < wr.heap.size := lt_of_block HST.out.box
        generalize oneF k = one at HLK o1 o2 ⊢
        have HOO := hid (And.intro o1 o2)
        go_upto_region 12 with fail
        have HH := hid (show w.heap.size + 1 + 1 < wr.heap.size from hb2)
        have HLL := hid (LkRow.lit3 (wr.setCell ⟨w.heap.size + 1 + 1, 9, none⟩ (.slice (some ⟨wr.heap.size, 0, none⟩) 3 3)) one 0 3 (3 - one) 3 3 3 6 3 (by
          intro l hl
          simp only [List.mem_cons, List.not_mem_nil, or_false] at hl
          rcases hl with rfl | rfl | rfl <;> (constructor <;> (dsimp only; omega))))
        rw [← HLK.out, World.size_setCell] at HLL
        have HB0 := hid (HST.out.put (c' := { num2 k with locks := locksF k }) (s' := { cv0 with ai := ai, ni := 9, ki := ki, al := some ⟨wr.heap.size, 0, none⟩, nl := 3, kl := 3 }) 9 (.slice (some ⟨wr.heap.size, 0, none⟩) 3 3) rfl)
        have HO0 := hid (HO.out.kept (HST.out.keep 9 (.slice (some ⟨wr.heap.size, 0, none⟩) 3 3)) (fun x hx e => by have := (HO.out.old hx).1; omega))
        refine wp_rename (fun W => BSt w k { num2 k with locks := locksF k } { cv0 with ai := ai, ni := 9, ki := ki, al := some ⟨wr.heap.size, 0, none⟩, nl := 3, kl := 3 } W ∧ OwnInt 2 (w.heap.size + 1 + 1 + 1) (.slice ai 9 ki) (initF 9) W ∧ LkRow W (some ⟨wr.heap.size, 0, none⟩) 3 (locksF k) ∧ (∀ x, (Value.slice ai 9 ki).ownBlock = some x → x < wr.heap.size) ∧ wr.heap.size < W.heap.size)
          ⟨HB0.out.later (bnew (bid _) _), HO0.out.below (bnew (bid _) _), HLL.out, fun x hx => (HO.out.old hx).2, by rw [size_alloc1, World.size_setCell]; omega⟩ ?_
        rintro W5 ⟨hs5, ho5, hl5, hx5, hz5⟩
        generalize wr.heap.size = H1 at HH hl5 hs5 hx5 hz5 ⊢
        have HS5 := hid hs5
        have HO5 := hid ho5
        have HL5 := hid hl5
        have HX5 := hid hx5
        clear hs5 ho5 hl5 hx5 HB0 HO0 HLL HST HO hb2 f9 r9 HLK o1 o2 q0 q1 q2 q3 q4 q5 q6 q7
        have f10 := frozen_of_blk HS5.out.box 10
        have r10 := cell_of_blk HS5.out.box 10
        simp only [Cfg.cs, List.getElem?_toArray, List.getElem?_cons_zero, List.getElem?_cons_succ] at r10
        have hb5 : w.heap.size + 1 + 1 < W5.heap.size := lt_of_block HS5.out.box
        have HH5 := hid (show w.heap.size + 1 + 1 < W5.heap.size from hb5)
        have HZ5 := hid hz5
        clear hz5
        have HC5 := hid (IntRow.lit [0, 1, 2] 3 (W5.setCell ⟨w.heap.size + 1 + 1, 10, none⟩ (.slice (some ⟨W5.heap.size, 0, none⟩) 3 3)) #[.int .i64 0, .int .i64 1, .int .i64 2] rfl 3 rfl)
        rw [World.size_setCell] at HC5
        have HB5 := hid (HS5.out.put (c' := num3 k []) (s' := ⟨ai, 9, ki, some ⟨H1, 0, none⟩, 3, 3, some ⟨W5.heap.size, 0, none⟩, 3, 3, none, 0, 0⟩) 10 (.slice (some ⟨W5.heap.size, 0, none⟩) 3 3) rfl)
        have HO6 := hid (HO5.out.kept (HS5.out.keep 10 (.slice (some ⟨W5.heap.size, 0, none⟩) 3 3)) (fun x hx e => by have := (HO5.out.old hx).1; omega))
        have HL6 := hid (lk_wrote HL5.out (HS5.out.keep 10 (.slice (some ⟨W5.heap.size, 0, none⟩) 3 3)) (fun x hx e => by cases hx; have := HH.out; dsimp only at e; omega))
        go_upto_region 13 with fail
        refine wp_rename (fun W => ∃ H2, BSt w k (num3 k []) ⟨ai, 9, ki, some ⟨H1, 0, none⟩, 3, 3, some ⟨H2, 0, none⟩, 3, 3, none, 0, 0⟩ W ∧ Built (w.heap.size + 1 + 1 + 1) (num3 k []) ⟨ai, 9, ki, some ⟨H1, 0, none⟩, 3, 3, some ⟨H2, 0, none⟩, 3, 3, none, 0, 0⟩ (initF 9) W)
          ⟨W5.heap.size, HB5.out.later (bnew (bid _) _), HO6.out.below (bnew (bid _) _), fun x _ => by simp [Value.ownBlock], ProgOwn.nil _ _, rfl, HL6.out.below (bnew (bid _) _), fun x hx => ⟨by cases hx; have := HH.out; dsimp only; omega, by cases hx; rw [size_alloc1, World.size_setCell]; have := HZ5.out; dsimp only; omega, by simp [Value.ownBlock]⟩, HC5.out, fun x hx => ⟨by cases hx; have := HH5.out; dsimp only; omega, by cases hx; rw [size_alloc1, World.size_setCell]; dsimp only; omega, by simp [Value.ownBlock]⟩, by refine ⟨?_, ?_, ?_, ?_⟩ <;> (dsimp only; omega)⟩ ?_
        rintro W6 ⟨H2, hs6, hb6⟩
        have HS6 := hid hs6
        have HB6 := hid hb6
        clear hs6 hb6 HB5 HO6 HL6 HC5 HS5 HO5 HL5 HX5 HH HH5 HZ5 hb5 f10 r10
        go_wp2
        go_loopw [8] (fun i wr => ∃ (j : Nat) (ap : Option Addr) (kp : Nat), j ≤ n ∧ j ≤ 3 ∧ i = .int .i64 j ∧ BSt w k (num3 k ((zss.take j).map prog6F)) ⟨ai, 9, ki, some ⟨H1, 0, none⟩, 3, 3, some ⟨H2, 0, none⟩, 3, 3, ap, j, kp⟩ wr ∧ Built (w.heap.size + 1 + 1 + 1) (num3 k ((zss.take j).map prog6F)) ⟨ai, 9, ki, some ⟨H1, 0, none⟩, 3, 3, some ⟨H2, 0, none⟩, 3, 3, ap, j, kp⟩ (initF 9) wr) (fun i _ => 3 - (intOf i).toNat)
        case atStart => exact ⟨0, none, 0, Nat.zero_le _, Nat.zero_le _, rfl, HS6.out, HB6.out⟩
        case round =>
          clear HS6 HB6
          obtain ⟨j, ap, kp, hjn, hj3, rfl, hs7, hb7⟩ := hrel
          have HS7 := hid hs7
          have HB7 := hid hb7
          clear hs7 hb7
          have i0 : (0 : Int) ≤ (j : Int) := by omega
          by_cases hlt : j < n ∧ j < 3
          · obtain ⟨hlt1, hlt2⟩ := hlt
            obtain ⟨b, off, zs, ra, rc, hae, hbl, hzs, hzl, hcell, hir⟩ := HRR.out.at hlt1
            subst hae
            have HP6 := hid (fun (W' : World) (hb : Below w.heap.size w W') => prog6_any ra zs.length rc zs W' (hir.below hb) hzl)
            have hc7 := (HS7.out.below.cell (p := ⟨b, off + j, none⟩) hbl).trans hcell
            have hbl7 : b < wr.heap.size := Nat.lt_of_lt_of_le hbl HS7.out.below.size
            have HLJ : Hid ((num3 k ((zss.take j).map prog6F)).progs.length = j) := hid (by show ((zss.take j).map prog6F).length = j; rw [List.length_map, List.length_take]; have := HRR.out.cnt; omega)
            have HNX : Hid ((zss.take j).map prog6F ++ [prog6F zs] = (zss.take (j + 1)).map prog6F) := hid (by rw [List.take_add_one, hzs]; simp)
            have f11 := frozen_of_blk HS7.out.box 11
            have r11 := cell_of_blk HS7.out.box 11
            simp only [Cfg.cs, List.getElem?_toArray, List.getElem?_cons_zero, List.getElem?_cons_succ] at r11
            have hb7 : w.heap.size + 1 + 1 < wr.heap.size := lt_of_block HS7.out.box
            have HH7 := hid (show w.heap.size + 1 + 1 < wr.heap.size from hb7)
            have i1 : (j : Int) < (n : Int) := by omega
            have i2 : (j : Int) < 3 := by omega
            clear hir hcell hzs
            go_upto_region 16 with fail
            go_region_law (first | (have _g := HB1; go_must (refine step_append_prog (W := _) rfl (.tmp 89) (.tmp 95) rfl rfl _ rfl (by simp) (HB7.out.below (bnew HB1.out _)).progs (HSR.out.below (bnew (bid _) _)) HPC.out.1 HPC.out.2 HPN.out (HPL.out _) (by rw [HLJ.out]; omega) (Nat.le_trans HH7.out (bnew HB1.out _).size) ?_; intro g cap w' hown' hat' hw'; have HN := hid (HB7.out.more (bnew HB1.out _) (by dsimp only; omega) hown' hat' hw'); have HN2 := hid ((HS7.out.later (bnew HB1.out _)).wrote hw' (fun x hx e => by have := (HB7.out.progs.old e).1; omega)); have f11' := frozen_of_blk HN2.out.box 11; have r11' := cell_of_blk HN2.out.box 11; simp only [Cfg.cs, List.getElem?_toArray, List.getElem?_cons_zero, List.getElem?_cons_succ] at r11'; clear hown' hat' hw'; rw [HLJ.out])) | (go_simp; go_at_call 13; refine (HP6.out _ (bthen HS7.out.below (bdrew (bid _)))).mono ?_; rintro e w1 ⟨v1, rfl, ho1, hb1⟩; obtain ⟨pa, pc, rfl, hrow, hnc, hpc, hpm⟩ := ho1.shape; have HB1 := hid (show Below wr.heap.size wr w1 from bthen (bdrew (bid _)) hb1); have r11b : w1.cell? ⟨w.heap.size + 1 + 1, 11, none⟩ = some (.slice ap j kp) := (hb1.cell (p := ⟨w.heap.size + 1 + 1, 11, none⟩) hb7).trans r11; have z1 : w.heap.size + 1 + 1 < w1.heap.size := Nat.lt_of_lt_of_le hb7 HB1.out.size; have HSR := hid hrow; have HPC := hid (And.intro hpc hpm); have HPN := hid (show ∀ y, pa = some y → w.heap.size + 1 + 1 + 1 ≤ y.block ∧ (Value.slice ap j kp).ownBlock ≠ some y.block from fun y hy => by subst hy; have h2 := (ho1.old (g := y.block) rfl).1; have h3 : wr.heap.size ≤ y.block := h2; exact ⟨Nat.le_trans HH7.out h3, fun e => by have h4 := (HB7.out.progs.old e).2; omega⟩); have HPL := hid (show ∀ (o : Obj) (y : Addr), pa = some y → y.block < (w1.alloc o).heap.size from fun o y hy => by subst hy; have h2 := (ho1.old (g := y.block) rfl).2; rw [size_alloc1]; omega); clear hnc hpc hpm hrow hb1 ho1))
            all_goals
              go_wp2
              exact ⟨⟨j + 1, some ⟨g, 0, none⟩, cap, by omega, by omega, by go_num, by rw [← HNX.out]; exact HN2.out.put 11 _ rfl, by rw [← HNX.out]; exact HN.out.far (HN2.out.keep 11 _) (fun x hx e => by omega)⟩, by simp [intOf]; omega⟩
          · have hcnt := HRR.out.cnt
            by_cases hn0 : n = 0
            · have hj0' : j = 0 := by omega
              subst hj0'
              have HBD : Hid (build6 k zss = num3 k [[]]) := hid (by unfold build6 progs6; rw [if_pos (by omega)])
              subst hn0
              clear hlt
              have f11 := frozen_of_blk HS7.out.box 11
              have r11 := cell_of_blk HS7.out.box 11
              simp only [Cfg.cs, List.getElem?_toArray, List.getElem?_cons_zero, List.getElem?_cons_succ] at r11
              have hb7 : w.heap.size + 1 + 1 < wr.heap.size := lt_of_block HS7.out.box
              have HPO := hid (ProgOwn.lit1 (wr.setCell ⟨w.heap.size + 1 + 1, 11, none⟩ (.slice (some ⟨wr.heap.size, 0, none⟩) 1 1)) (w.heap.size + 1 + 1 + 1) (by rw [World.size_setCell]; omega))
              rw [World.size_setCell] at HPO
              have HS8 := hid (HS7.out.put (c' := num3 k [[]]) (s' := ⟨ai, 9, ki, some ⟨H1, 0, none⟩, 3, 3, some ⟨H2, 0, none⟩, 3, 3, some ⟨wr.heap.size, 0, none⟩, 1, 1⟩) 11 (.slice (some ⟨wr.heap.size, 0, none⟩) 1 1) rfl)
              have HB8 := hid ((HB7.out.far (HS7.out.keep 11 (.slice (some ⟨wr.heap.size, 0, none⟩) 1 1)) (fun x hx e => by omega)).below (bnew (bid _) (.cells #[.slice none 0 0] 38)))
              go_upto_region 19 with fail
              refine wp_rename (fun W => ∃ ap kp np, BSt w k (build6 k zss) ⟨ai, 9, ki, some ⟨H1, 0, none⟩, 3, 3, some ⟨H2, 0, none⟩, 3, 3, ap, np, kp⟩ W ∧ Built (w.heap.size + 1 + 1 + 1) (build6 k zss) ⟨ai, 9, ki, some ⟨H1, 0, none⟩, 3, 3, some ⟨H2, 0, none⟩, 3, 3, ap, np, kp⟩ (initF 9) W)
                ⟨some ⟨wr.heap.size, 0, none⟩, 1, 1, by rw [HBD.out]; exact HS8.out.later (bnew (bid _) _), by
                  rw [HBD.out]
                  have h := HB8.out
                  refine ⟨h.ini, fun x hx e => ?_, HPO.out, rfl, h.lks, fun x hx => ⟨(h.lke x hx).1, (h.lke x hx).2.1, fun e => ?_⟩, h.cds, fun x hx => ⟨(h.cde x hx).1, (h.cde x hx).2.1, fun e => ?_⟩, by refine ⟨?_, ?_, ?_, ?_⟩ <;> (dsimp only; omega)⟩
                  · have h1 := (HB7.out.ini.old hx).2
                    simp only [Value.ownBlock, Option.some.injEq] at e
                    omega
                  · simp only [Value.ownBlock, Option.some.injEq] at e
                    have h1 := (HB7.out.lke x hx).2.1
                    omega
                  · simp only [Value.ownBlock, Option.some.injEq] at e
                    have h1 := (HB7.out.cde x hx).2.1
                    omega⟩ ?_
              rintro W9 ⟨ap9, kp9, np9, hs9, hb9⟩
              have HS9 := hid hs9
              have HB9 := hid hb9
              clear hs9 hb9 HS8 HB8 HPO HS7 HB7 HBD r11 f11 hb7
              generalize hcc : build6 k zss = cc at HS9 HB9
              have HCC := hid hcc
              clear hcc
              obtain ⟨k0, k1, k2, k3, k4, k5, k6, k7, k8, k9, k10, k11⟩ := cfg_facts HS9.out.box
              have HRB := hid (setRow_heap W9 (w.heap.size + 1) _ (cc.cs ⟨ai, 9, ki, some ⟨H1, 0, none⟩, 3, 3, some ⟨H2, 0, none⟩, 3, 3, ap9, np9, kp9⟩) _ _ HS9.out.res)
              have HWR : Hid (Wrote (fun b => b = w.heap.size + 1) W9 (W9.setRow (w.heap.size + 1) (cc.cs ⟨ai, 9, ki, some ⟨H1, 0, none⟩, 3, 3, some ⟨H2, 0, none⟩, 3, 3, ap9, np9, kp9⟩))) := hid ⟨rfl, rfl, rfl, by simp [World.setRow], fun q _ hq => setRow_other _ _ _ _ hq⟩
              have Q0 := hid (cell_of_blk HRB.out 0)
              have Q1 := hid (cell_of_blk HRB.out 1)
              have Q2 := hid (cell_of_blk HRB.out 2)
              have Q3 := hid (cell_of_blk HRB.out 3)
              have Q4 := hid (cell_of_blk HRB.out 4)
              have Q5 := hid (cell_of_blk HRB.out 5)
              have Q6 := hid (cell_of_blk HRB.out 6)
              have Q7 := hid (cell_of_blk HRB.out 7)
              have Q8 := hid (cell_of_blk HRB.out 8)
              have Q9 := hid (cell_of_blk HRB.out 9)
              have Q10 := hid (cell_of_blk HRB.out 10)
              have Q11 := hid (cell_of_blk HRB.out 11)
              simp only [Cfg.cs, List.getElem?_toArray, List.getElem?_cons_zero, List.getElem?_cons_succ] at Q0 Q1 Q2 Q3 Q4 Q5 Q6 Q7 Q8 Q9 Q10 Q11
              clear HRB
              go_wp2_with ((refine wpList_store_row (o := ⟨none, .store 34 _ _, _, _, _, _⟩) rfl 34 (.tmp 4) (.tmp 103) rfl (w.heap.size + 1) (cc.cs ⟨ai, 9, ki, some ⟨H1, 0, none⟩, 3, 3, some ⟨H2, 0, none⟩, 3, 3, ap9, np9, kp9⟩) rfl rfl _ _ HS9.out.res HINF.out rfl (cs_one _ _) ?_))
              refine bodyPost_ret (v := cc.v ⟨ai, 9, ki, some ⟨H1, 0, none⟩, 3, 3, some ⟨H2, 0, none⟩, 3, 3, ap9, np9, kp9⟩) (by simp [results, Tryz.results7, go_sem, Q0.out, Q1.out, Q2.out, Q3.out, Q4.out, Q5.out, Q6.out, Q7.out, Q8.out, Q9.out, Q10.out, Q11.out]) rfl ?_
              rw [HCC.out]
              exact ⟨⟨ai, 9, ki, some ⟨H1, 0, none⟩, 3, 3, some ⟨H2, 0, none⟩, 3, 3, ap9, np9, kp9⟩, rfl, (HB9.out.far HWR.out (fun x hx e => by omega)).mono (show w.heap.size ≤ w.heap.size + 1 + 1 + 1 by omega), rfl, HS9.out.below.trans (HWR.out.below HS9.out.below.size (fun x hx e => by omega))⟩
            · have HBD : Hid (build6 k zss = num3 k ((zss.take j).map prog6F)) := hid (by
                unfold build6 progs6
                rw [if_neg (by omega)]
                by_cases h3 : j = 3
                · rw [h3]
                · have : n = j := by omega
                  rw [List.take_of_length_le (by omega), List.take_of_length_le (by omega)])
              have hn0' : ¬ (n : Int) = 0 := by omega
              have hsp : ¬ (j : Int) < (n : Int) ∨ ((j : Int) < (n : Int) ∧ ¬ (j : Int) < 3) := by omega
              have HS9 : Hid (BSt w k (build6 k zss) ⟨ai, 9, ki, some ⟨H1, 0, none⟩, 3, 3, some ⟨H2, 0, none⟩, 3, 3, ap, j, kp⟩ wr) := hid (by rw [HBD.out]; exact HS7.out)
              have HB9 : Hid (Built (w.heap.size + 1 + 1 + 1) (build6 k zss) ⟨ai, 9, ki, some ⟨H1, 0, none⟩, 3, 3, some ⟨H2, 0, none⟩, 3, 3, ap, j, kp⟩ (initF 9) wr) := hid (by rw [HBD.out]; exact HB7.out)
              clear HS7 HB7 HBD hlt
              rcases hsp with hs1 | ⟨hs1, hs2⟩
              all_goals
                generalize hcc : build6 k zss = cc at HS9 HB9
                have HCC := hid hcc
                clear hcc
                obtain ⟨k0, k1, k2, k3, k4, k5, k6, k7, k8, k9, k10, k11⟩ := cfg_facts HS9.out.box
                have HRB := hid (setRow_heap wr (w.heap.size + 1) _ (cc.cs ⟨ai, 9, ki, some ⟨H1, 0, none⟩, 3, 3, some ⟨H2, 0, none⟩, 3, 3, ap, j, kp⟩) _ _ HS9.out.res)
                have HWR : Hid (Wrote (fun b => b = w.heap.size + 1) wr (wr.setRow (w.heap.size + 1) (cc.cs ⟨ai, 9, ki, some ⟨H1, 0, none⟩, 3, 3, some ⟨H2, 0, none⟩, 3, 3, ap, j, kp⟩))) := hid ⟨rfl, rfl, rfl, by simp [World.setRow], fun q _ hq => setRow_other _ _ _ _ hq⟩
                have Q0 := hid (cell_of_blk HRB.out 0)
                have Q1 := hid (cell_of_blk HRB.out 1)
                have Q2 := hid (cell_of_blk HRB.out 2)
                have Q3 := hid (cell_of_blk HRB.out 3)
                have Q4 := hid (cell_of_blk HRB.out 4)
                have Q5 := hid (cell_of_blk HRB.out 5)
                have Q6 := hid (cell_of_blk HRB.out 6)
                have Q7 := hid (cell_of_blk HRB.out 7)
                have Q8 := hid (cell_of_blk HRB.out 8)
                have Q9 := hid (cell_of_blk HRB.out 9)
                have Q10 := hid (cell_of_blk HRB.out 10)
                have Q11 := hid (cell_of_blk HRB.out 11)
                simp only [Cfg.cs, List.getElem?_toArray, List.getElem?_cons_zero, List.getElem?_cons_succ] at Q0 Q1 Q2 Q3 Q4 Q5 Q6 Q7 Q8 Q9 Q10 Q11
                clear HRB
                go_wp2_with ((refine wpList_store_row (o := ⟨none, .store 34 _ _, _, _, _, _⟩) rfl 34 (.tmp 4) (.tmp 103) rfl (w.heap.size + 1) (cc.cs ⟨ai, 9, ki, some ⟨H1, 0, none⟩, 3, 3, some ⟨H2, 0, none⟩, 3, 3, ap, j, kp⟩) rfl rfl _ _ HS9.out.res HINF.out rfl (cs_one _ _) ?_))
                refine bodyPost_ret (v := cc.v ⟨ai, 9, ki, some ⟨H1, 0, none⟩, 3, 3, some ⟨H2, 0, none⟩, 3, 3, ap, j, kp⟩) (by simp [results, Tryz.results7, go_sem, Q0.out, Q1.out, Q2.out, Q3.out, Q4.out, Q5.out, Q6.out, Q7.out, Q8.out, Q9.out, Q10.out, Q11.out]) rfl ?_
                rw [HCC.out]
                exact ⟨⟨ai, 9, ki, some ⟨H1, 0, none⟩, 3, 3, some ⟨H2, 0, none⟩, 3, 3, ap, j, kp⟩, rfl, (HB9.out.far HWR.out (fun x hx e => by omega)).mono (show w.heap.size ≤ w.heap.size + 1 + 1 + 1 by omega), rfl, HS9.out.below.trans (HWR.out.below HS9.out.below.size (fun x hx e => by omega))⟩

end Go.Proofs.YtblalejegjieaaaGreatDoor
