/-
  The program's attempt with values: what is asked, what is undone; Kill; Begin; Watch; Read; Write; Commit.
-/
import Derived.Test.YtjfinnjmcnjciaaNpC
namespace Go.Proofs.Ytjfinnjmcnjciaa
open Go.RowKit
attribute [local go_sem] Later.cell Later.frozen

variable {w : World} {ρ : Nat → Nat} {r b : Nat} {x : PT} {l : PL}
/-- A list of parts that has just been laid. -/
theorem parts_lit (w : World) (ρ : Nat → Nat) (r : Nat) (x : PT) (l : PL) (ps : List Int) (cs : Array Value) (h : cs = (ps.map fun (n : Int) => Value.int .i64 n).toArray) (n : Nat) (hn : n = ps.length) (h100 : n ≤ 100) :
    PParts (w.alloc (.cells cs 107)) (newR ρ w.heap.size (r + 7)) r { x with parts := ps, dn := 0 } { l with pa := some ⟨w.heap.size, 0, none⟩, pc := n } := by
  subst h hn
  refine ⟨⟨rfl, .inr ⟨_, rfl, fun j hj => ?_⟩⟩, fun a ha _ => ?_, Nat.le_refl _, Nat.le_trans h100 (by unfold maxLen; decide)⟩
  · have hj : j < ps.length := hj
    rw [add_at, cell_of_blk (heap_alloc_new _ _)]
    simp [hj]
  · simp only [Option.some.injEq] at ha
    subst ha
    exact ⟨newR_new (Nat.le_refl _), by show w.heap.size < (w.alloc _).heap.size; rw [size_alloc1]; omega⟩
set_option maxHeartbeats 1000000 in
theorem tpask_gen (ps : List Int) (a : Option Addr) (c : Nat) (h : PX w ρ r b x l) (hp : PParts w ρ r { x with parts := ps, dn := 0 } { l with pa := a, pc := c }) (ha : ∀ p ∈ ps, isPart p) (hab : (∀ p ∈ ps, p = 10 ∨ p = 11) ∨ AbC r b) :
    Calls Try.prog 79 #[.pointer (some ⟨b, 0, none⟩), .slice a ps.length c] w (TpRet w ρ r b (askP x ps)) := by
  have H := hid h
  have c17 : w.cell? ⟨b, 16, none⟩ = some (.slice l.pa x.parts.length l.pc) := h.c 16
  have f17 := h.f 16
  have c18 : w.cell? ⟨b, 17, none⟩ = some (.int .i64 x.dn) := h.c 17
  have f18 := h.f 17
  have hb1 := h.ins.b1
  have hw := hid (((Wrote.refl (fun k => k = b) w).setCell (p := ⟨b, 16, none⟩) (fun _ => rfl) (.slice a ps.length c)).setCell (p := ⟨b, 17, none⟩) (fun _ => rfl) (.int .i64 0))
  have HX := hid (show PX ((w.setCell ⟨b, 16, none⟩ (.slice a ps.length c)).setCell ⟨b, 17, none⟩ (.int .i64 0)) ρ r b { x with parts := ps, dn := 0 } { l with pa := a, pc := c } from
    ⟨blk_setCell (blk_setCell h.blk 16 _) 17 _, (h.ins.kept hw.out fun k h1 h2 e => by subst e; omega).same rfl rfl, hp.kept hw.out fun k hk e => by subst e; omega⟩)
  have HG := hid (goOn_gen HX.out ha hab)
  have HW := hid (h.wr1 hw.out)
  clear h hp ha hw hb1 HX hab
  go_enter Try.func79, Try.ntmps79
  go_wp2_with (go_at_call 74; go_must ((with_reducible refine HG.out.mono ?_); rintro e w1 ⟨rfl, hr⟩; have HR := hid hr; clear hr))
  go_ret
  exact TpRet.from (w1 := (w.setCell ⟨b, 16, none⟩ (.slice a ps.length c)).setCell ⟨b, 17, none⟩ (.int .i64 0)) ⟨rfl, HR.out⟩ (Gr.refl _ _) HW.out
/-- Parts that have just been laid are asked. -/
theorem askLit_gen (ps : List Int) (cs : Array Value) (hcs : cs = (ps.map fun (n : Int) => Value.int .i64 n).toArray) (n : Nat) (hn : n = ps.length) (h100 : n ≤ 100) (h : PX w ρ r b x l) (ha : ∀ p ∈ ps, isPart p) (hab : (∀ p ∈ ps, p = 10 ∨ p = 11) ∨ AbC r b) :
    Calls Try.prog 79 #[.pointer (some ⟨b, 0, none⟩), .slice (some ⟨w.heap.size, 0, none⟩) n n] (w.alloc (.cells cs 107)) (TpRet w ρ r b (askP x ps)) := by
  have hx : PX (w.alloc (.cells cs 107)) (newR ρ w.heap.size (r + 7)) r b x l := (h.gr (newR_gr ρ w (r + 7))).below (bnew (bid w) _)
  have hp := parts_lit w ρ r x l ps cs hcs n hn h100
  rw [hn] at hp ⊢
  exact (tpask_gen ps _ _ hx hp ha hab).mono fun e w' hh => hh.from (newR_gr _ _ _) (Wrote.of_below (bnew (bid w) _) _)
set_option maxHeartbeats 1000000 in
theorem tpabort_any (c : Int) (h : PX w ρ r b x l) : Calls Try.prog 68 #[.pointer (some ⟨b, 0, none⟩), .int .i64 c] w (TpRet w ρ r b (abortP x c)) := by
  have c11 : w.cell? ⟨b, 10, none⟩ = some (.bool x.alive) := h.c 10
  have f11 := h.f 10
  have c13 : w.cell? ⟨b, 12, none⟩ = some (.int .i64 x.cause) := h.c 12
  have f13 := h.f 12
  have c15 : w.cell? ⟨b, 14, none⟩ = some (.int .i64 x.made) := h.c 14
  have f15 := h.f 14
  have hw := (((Wrote.refl (fun k => k = b) w).setCell (p := ⟨b, 10, none⟩) (fun _ => rfl) (.bool false)).setCell (p := ⟨b, 12, none⟩) (fun _ => rfl) (.int .i64 c)).setCell (p := ⟨b, 14, none⟩) (fun _ => rfl) (.int .i64 0)
  have HX := hid (h.upd (x' := { x with alive := false, cause := c, made := 0 }) (l' := l) (blk_setCell (blk_setCell (blk_setCell h.blk 10 (.bool false)) 12 (.int .i64 c)) 14 (.int .i64 0)) hw rfl rfl rfl ⟨rfl, rfl⟩)
  have HW := hid (h.wr1 hw)
  have HE := hid (show askP { x with alive := false, cause := c, made := 0 } [10, 11] = abortP x c from goP_quiet [10, 11] _ (by intro p hp; simp at hp; exact hp))
  clear h hw
  go_enter Try.func68, Try.ntmps68
  go_upto_region 2 with fail
  refine wp_renamed (fun W => PX W ρ r b { x with alive := false, cause := c, made := 0 } l ∧ Wrote (Own ρ r) w W) ⟨HX.out, HW.out⟩ ?_
  clear HX HW c11 c13 c15 f11 f13 f15
  rintro W ⟨hx, hw⟩
  have HW := hid hw
  have HA := hid (askLit_gen [10, 11] #[.int .i64 10, .int .i64 11] rfl 2 rfl (by decide) hx (by intro p hp; simp at hp; rcases hp with rfl | rfl <;> simp [isPart]) (.inl (by intro p hp; simp at hp; exact hp)))
  rw [HE.out] at HA
  clear hx hw
  go_wp2_with (go_at_call 79; go_must ((with_reducible refine HA.out.mono ?_); rintro e w1 ⟨rfl, hr⟩; have HR := hid hr; clear hr))
  go_ret
  exact TpRet.from (w1 := W) ⟨rfl, HR.out⟩ (Gr.refl _ _) HW.out
theorem ab_any (r b : Nat) : AbC r b := fun _ _ _ _ c h => tpabort_any c h
theorem goOn_any (h : PX w ρ r b x l) (ha : ∀ p ∈ x.parts, isPart p) : Calls Try.prog 74 #[.pointer (some ⟨b, 0, none⟩)] w (TpRet w ρ r b (goOnP x)) := goOn_gen h ha (.inr (ab_any r b))
theorem askLit (ps : List Int) (cs : Array Value) (hcs : cs = (ps.map fun (n : Int) => Value.int .i64 n).toArray) (n : Nat) (hn : n = ps.length) (h100 : n ≤ 100) (h : PX w ρ r b x l) (ha : ∀ p ∈ ps, isPart p) :
    Calls Try.prog 79 #[.pointer (some ⟨b, 0, none⟩), .slice (some ⟨w.heap.size, 0, none⟩) n n] (w.alloc (.cells cs 107)) (TpRet w ρ r b (askP x ps)) := askLit_gen ps cs hcs n hn h100 h ha (.inr (ab_any r b))

/-! ### ready; Kill -/
def readyB (x : PT) : Bool := x.alive && x.parts.isEmpty
theorem ready_yes {x : PT} (h : readyB x = true) : x.alive = true ∧ x.parts = [] := by
  unfold readyB at h; simp at h; exact h
theorem ready_no {x : PT} (h : readyB x = false) : ¬ (x.alive = true ∧ x.parts = []) := by
  intro hh; unfold readyB at h; rw [hh.1, hh.2] at h; cases h
set_option maxHeartbeats 1000000 in
theorem tpready_any (h : PX w ρ r b x l) : Calls Try.prog 75 #[.pointer (some ⟨b, 0, none⟩)] w fun e w' => e = .returned (.bool (readyB x)) ∧ w = w' := by
  have c11 : w.cell? ⟨b, 10, none⟩ = some (.bool x.alive) := h.c 10
  have f11 := h.f 10
  have c17 : w.cell? ⟨b, 16, none⟩ = some (.slice l.pa x.parts.length l.pc) := h.c 16
  have f17 := h.f 16
  clear h
  cases ha : x.alive with
  | false =>
    rw [ha] at c11
    have HE := hid (show readyB x = false from by unfold readyB; rw [ha]; rfl)
    clear ha
    go_enter Try.func75, Try.ntmps75
    go_wp2
    go_ret
    exact ⟨by rw [HE.out]; rfl, rfl⟩
  | true =>
    rw [ha] at c11
    have HE := hid (show readyB x = ((x.parts.length : Int) == 0) from by unfold readyB; rw [ha, eq_dec]; cases x.parts <;> rfl)
    clear ha
    generalize x.parts.length = n at *
    go_enter Try.func75, Try.ntmps75
    go_wp2
    go_ret
    exact ⟨by rw [HE.out]; rfl, rfl⟩
set_option maxHeartbeats 1000000 in
theorem tpKill_any (c : Int) (h : PX w ρ r b x l) : Calls Try.prog 27 #[.pointer (some ⟨b, 0, none⟩), .int .i64 c] w (TpRet w ρ r b (pKill x c)) := by
  have H := hid h
  have c11 : w.cell? ⟨b, 10, none⟩ = some (.bool x.alive) := h.c 10
  have f11 := h.f 10
  have c12 : w.cell? ⟨b, 11, none⟩ = some (.bool x.sure) := h.c 11
  have f12 := h.f 11
  have HA := hid (tpabort_any c h)
  clear h
  cases ha : x.alive with
  | false =>
    rw [ha] at c11
    have HE := hid (show pKill x c = (1, x) from if_neg (fun h => by rw [ha] at h; cases h.1))
    clear ha
    go_enter Try.func27, Try.ntmps27
    go_wp2
    go_ret
    rw [HE.out]
    exact ⟨rfl, ρ, l, Gr.refl _ _, H.out, Wrote.refl _ _⟩
  | true =>
    rw [ha] at c11
    cases hs : x.sure with
    | true =>
      rw [hs] at c12
      have HE := hid (show pKill x c = (1, x) from if_neg (fun h => by rw [hs] at h; cases h.2))
      clear ha hs
      go_enter Try.func27, Try.ntmps27
      go_wp2
      go_ret
      rw [HE.out]
      exact ⟨rfl, ρ, l, Gr.refl _ _, H.out, Wrote.refl _ _⟩
    | false =>
      rw [hs] at c12
      have HE := hid (show pKill x c = abortP x c from if_pos ⟨ha, hs⟩)
      clear ha hs
      go_enter Try.func27, Try.ntmps27
      go_wp2_with (go_at_call 68; go_must ((with_reducible refine HA.out.mono ?_); rintro e w1 ⟨rfl, hr⟩; have HR := hid hr; clear hr))
      go_ret
      rw [HE.out]
      exact ⟨rfl, HR.out⟩

/-- Without lists. -/
theorem PX.nolists (h : PX w ρ r b x l) : PX (w.setCell ⟨b, 9, none⟩ (.slice none 0 0)) ρ r b { x with wt := [] } { l with vt := .slice none 0 0 } := by
  have hw := (Wrote.refl (fun k => k = b) w).setCell (p := ⟨b, 9, none⟩) (fun _ => rfl) (.slice none 0 0)
  have hb1 := h.ins.b1
  have i := h.ins.kept hw fun k h1 h2 e => by subst e; omega
  exact ⟨blk_setCell h.blk 9 _, ⟨i.rd, i.wr, WL.nil _ _, i.b1, i.b2, i.b3, (fun k hk => by simp [Value.ownBlock] at hk), Nat.zero_le _⟩, (h.parts.kept hw fun k hk e => by subst e; omega).same rfl rfl rfl⟩
set_option maxHeartbeats 2000000 in
theorem tpBegin_any (h : PX w ρ r b x l) : Calls Try.prog 55 #[.pointer (some ⟨b, 0, none⟩)] w (TpRet w ρ r b (pBegin x)) := by
  have H := hid h
  have c8 : w.cell? ⟨b, 7, none⟩ = some (.pointer (some ⟨l.rb, 0, none⟩)) := h.c 7
  have f8 := h.f 7
  have c11 : w.cell? ⟨b, 10, none⟩ = some (.bool x.alive) := h.c 10
  have f11 := h.f 10
  have c17 : w.cell? ⟨b, 16, none⟩ = some (.slice l.pa x.parts.length l.pc) := h.c 16
  have f17 := h.f 16
  clear h
  cases ha : x.alive with
  | true =>
    rw [ha] at c11
    have HE := hid (show pBegin x = (2, x) from if_pos (.inl ha))
    clear ha
    go_enter Try.func55, Try.ntmps55
    go_wp2
    go_ret
    rw [HE.out]
    exact ⟨rfl, ρ, l, Gr.refl _ _, H.out, Wrote.refl _ _⟩
  | false =>
    rw [ha] at c11
    by_cases hp : x.parts = []
    · have HE := hid (show pBegin x = _ from if_neg (fun h => h.elim (fun h => by rw [ha] at h; cases h) (fun h => h hp)))
      rw [hp] at c17
      have HR := hid (RdClear_any l.rb x.mr x.rs w H.out.ins.rd)
      clear ha hp
      go_enter Try.func55, Try.ntmps55
      go_upto_region 4 with (go_at_call 83; go_must ((with_reducible refine HR.out.mono ?_); rintro e w1 ⟨rfl, hs, hw⟩; have HX := hid (H.out.reads hs hw); have HW := hid (H.out.ownR hw); clear hs hw))
      have c9 : w1.cell? ⟨b, 8, none⟩ = some (.pointer (some ⟨l.wb, 0, none⟩)) := HX.out.c 8
      have f9 := HX.out.f 8
      have HC := hid (wClear_any l.wb x.mw x.ws x.asked w1 HX.out.ins.wr)
      clear HR c8 f8 c11 f11 c17 f17
      go_upto_region 5 with (go_at_call 84; go_must ((with_reducible refine HC.out.mono ?_); rintro e w2 ⟨rfl, hs, hw⟩; have HX2 := hid (HX.out.writes hs hw); have HW2 := hid (HW.out.trans (HX.out.ownW hw)); clear hs hw))
      have c10 : w2.cell? ⟨b, 9, none⟩ = some (l.vt) := HX2.out.c 9
      have f10 := HX2.out.f 9
      have HX3 := hid HX2.out.nolists
      have hw3 := (Wrote.refl (fun k => k = b) w2).setCell (p := ⟨b, 9, none⟩) (fun _ => rfl) (.slice none 0 0)
      have HW3 := hid (HW2.out.trans (HX2.out.wr1 hw3))
      clear HC c9 f9 hw3
      go_upto_region 6 with fail
      refine wp_renamed (fun W => PX W ρ r b { x with rs := [], ws := [], asked := 0, wt := [] } { l with vt := .slice none 0 0 } ∧ Wrote (Own ρ r) w W) ⟨HX3.out, HW3.out⟩ ?_
      clear HX3 HW3 HX2 HW2 HX HW c10 f10
      rintro W ⟨hx, hw⟩
      have HW := hid hw
      have c11 : W.cell? ⟨b, 10, none⟩ = some (.bool x.alive) := hx.c 10
      have f11 := hx.f 10
      have c12 : W.cell? ⟨b, 11, none⟩ = some (.bool x.sure) := hx.c 11
      have f12 := hx.f 11
      have hw2 := ((Wrote.refl (fun k => k = b) W).setCell (p := ⟨b, 10, none⟩) (fun _ => rfl) (.bool true)).setCell (p := ⟨b, 11, none⟩) (fun _ => rfl) (.bool false)
      have HX2 := hid (hx.upd (x' := { x with rs := [], ws := [], asked := 0, wt := [], alive := true, sure := false }) (l' := { l with vt := .slice none 0 0 }) (blk_setCell (blk_setCell hx.blk 10 (.bool true)) 11 (.bool false)) hw2 rfl rfl rfl ⟨rfl, rfl⟩)
      have HW2 := hid (hw.trans (hx.wr1 hw2))
      clear hx hw hw2
      go_upto_region 7 with fail
      refine wp_renamed (fun W => PX W ρ r b { x with rs := [], ws := [], asked := 0, wt := [], alive := true, sure := false } { l with vt := .slice none 0 0 } ∧ Wrote (Own ρ r) w W) ⟨HX2.out, HW2.out⟩ ?_
      clear HX2 HW2 HW c11 f11 c12 f12
      rintro W3 ⟨hx, hw⟩
      have c13 : W3.cell? ⟨b, 12, none⟩ = some (.int .i64 x.cause) := hx.c 12
      have f13 := hx.f 12
      have c15 : W3.cell? ⟨b, 14, none⟩ = some (.int .i64 x.made) := hx.c 14
      have f15 := hx.f 14
      have c16 : W3.cell? ⟨b, 15, none⟩ = some (.int .i64 x.val) := hx.c 15
      have f16 := hx.f 15
      have hw2 := (((Wrote.refl (fun k => k = b) W3).setCell (p := ⟨b, 12, none⟩) (fun _ => rfl) (.int .i64 0)).setCell (p := ⟨b, 14, none⟩) (fun _ => rfl) (.int .i64 0)).setCell (p := ⟨b, 15, none⟩) (fun _ => rfl) (.int .i64 0)
      have HX2 := hid (hx.upd (x' := { x with rs := [], ws := [], asked := 0, wt := [], alive := true, sure := false, cause := 0, made := 0, val := 0 }) (l' := { l with vt := .slice none 0 0 }) (blk_setCell (blk_setCell (blk_setCell hx.blk 12 (.int .i64 0)) 14 (.int .i64 0)) 15 (.int .i64 0)) hw2 rfl rfl rfl ⟨rfl, rfl⟩)
      have HW2 := hid (hw.trans (hx.wr1 hw2))
      clear hx hw hw2
      go_upto_region 8 with fail
      refine wp_renamed (fun W => PX W ρ r b { x with rs := [], ws := [], asked := 0, wt := [], alive := true, sure := false, cause := 0, made := 0, val := 0 } { l with vt := .slice none 0 0 } ∧ Wrote (Own ρ r) w W) ⟨HX2.out, HW2.out⟩ ?_
      clear HX2 HW2 c13 f13 c15 f15 c16 f16
      rintro W4 ⟨hx, hw⟩
      have HW := hid hw
      have HA := hid (askLit [0, 13] #[.int .i64 0, .int .i64 13] rfl 2 rfl (by decide) hx (by intro p hp; simp at hp; rcases hp with rfl | rfl <;> simp [isPart]))
      clear hx hw
      go_wp2_with (go_at_call 79; go_must ((with_reducible refine HA.out.mono ?_); rintro e w5 ⟨rfl, hr⟩; have HR := hid hr; clear hr))
      go_ret
      rw [HE.out]
      exact TpRet.from (w1 := W4) ⟨rfl, HR.out⟩ (Gr.refl _ _) HW.out
    · have HE := hid (show pBegin x = (2, x) from if_pos (.inr hp))
      have hn : (0 : Int) < (x.parts.length : Int) := by have := List.length_pos_iff.2 hp; omega
      generalize x.parts.length = n at *
      clear ha hp
      go_enter Try.func55, Try.ntmps55
      go_wp2
      go_ret
      rw [HE.out]
      exact ⟨rfl, ρ, l, Gr.refl _ _, H.out, Wrote.refl _ _⟩

/-! ### Watch -/
/-- One more place is watched. -/
theorem PX.watched (h : PX w ρ r b x l) (hn : x.wt.length < 100) {w1 w2 : World} {v : Value} {p : Wd} (hb : Below w.heap.size w w1) (hv : WL w2 0 v (x.wt ++ [p])) (hw : Wrote (fun k => l.vt.ownBlock = some k) w1 w2) (ho : ∀ g, v.ownBlock = some g → l.vt.ownBlock = some g ∨ w1.heap.size ≤ g) :
    ∃ ρ', Gr ρ ρ' w ∧ PX (w2.setCell ⟨b, 9, none⟩ v) ρ' r b { x with wt := x.wt ++ [p] } { l with vt := v } ∧ Wrote (Own ρ r) w (w2.setCell ⟨b, 9, none⟩ v) := by
  have h1 : PX w1 ρ r b x l := h.below hb
  have hg := newR_gr ρ w1 (r + 4)
  have h2 : PX w1 (newR ρ w1.heap.size (r + 4)) r b x l := h1.gr hg
  have hw3 := (Wrote.refl (fun k => k = b) w2).setCell (p := ⟨b, 9, none⟩) (fun _ => rfl) v
  have hb1 := h2.ins.b1
  have i := (h2.ins.kept (S := fun k => l.vt.ownBlock = some k ∧ False) (w' := w1) (Wrote.refl _ _) (fun _ _ _ h => h.2))
  have ne : ∀ k, l.vt.ownBlock = some k → newR ρ w1.heap.size (r + 4) k = r + 4 := h2.ins.b4
  have hblk2 : w2.heap[b]? = some (.cells (ptC x l) 99 (0, 0)) := (hw.block _ h2.lt (fun e => by have := ne _ e; omega)).trans h2.blk
  have hwv : WL (w2.setCell ⟨b, 9, none⟩ v) 0 v (x.wt ++ [p]) := hv.kept hw3 fun k hk e => by
    subst e
    rcases ho _ hk with hk | hk
    · have := ne _ hk; omega
    · have := h2.lt; omega
  have W12 : Wrote (fun k => l.vt.ownBlock = some k ∨ k = b) w1 (w2.setCell ⟨b, 9, none⟩ v) := (hw.mono fun k _ e => .inl e).trans (hw3.mono fun k _ e => .inr e)
  refine ⟨newR ρ w1.heap.size (r + 4), fun k hk => hg k (Nat.lt_of_lt_of_le hk hb.size), ⟨blk_setCell hblk2 9 v, ⟨?_, ?_, hwv, i.b1, i.b2, i.b3, ?_, by show (x.wt ++ [p]).length ≤ 100; rw [List.length_append, List.length_singleton]; omega⟩, ?_⟩, ?_⟩
  · exact i.rd.keep (W12.block _ i.rd.lt (fun e => by have h2 := i.b2; rcases e with e | e; · have := ne _ e; omega
                                                      · rw [e] at h2; omega))
  · exact i.wr.keep (W12.block _ i.wr.lt (fun e => by have h2 := i.b3; rcases e with e | e; · have := ne _ e; omega
                                                      · rw [e] at h2; omega))
  · intro k hk
    rcases ho k hk with hk | hk
    · exact ne _ hk
    · exact newR_new hk
  · exact (h2.parts.kept W12 fun k hk e => by rcases e with e | e; · have := ne _ e; omega
                                              · subst e; omega).same rfl rfl rfl
  · refine (Wrote.of_below hb _).trans (W12.mono fun k hk e => ?_)
    rcases e with e | e
    · have := h1.ins.b4 k e
      exact ⟨by omega, by omega⟩
    · subst e; exact h.own

/-- What a call that tells nothing comes to. -/
def TpRet0 (w : World) (ρ : Nat → Nat) (r b : Nat) (y : PT) (e : Ending) (w' : World) : Prop := e = .returned (.tuple #[]) ∧ ∃ ρ' l', Gr ρ ρ' w ∧ PX w' ρ' r b y l' ∧ Wrote (Own ρ r) w w'
set_option maxHeartbeats 2000000 in
theorem tpWatch_any (a v : Int) (h : PX w ρ r b x l) (hn : x.wt.length < 100) :
    Calls Try.prog 33 #[.pointer (some ⟨b, 0, none⟩), .int .i64 a, .int .i64 v] w (TpRet0 w ρ r b (pWatch x a v)) := by
  have H := hid h
  have c11 : w.cell? ⟨b, 10, none⟩ = some (.bool x.alive) := h.c 10
  have f11 := h.f 10
  have c10 : w.cell? ⟨b, 9, none⟩ = some (l.vt) := h.c 9
  have f10 := h.f 9
  have hlt := h.lt
  cases ha : x.alive with
  | false =>
    rw [ha] at c11
    have HE := hid (show pWatch x a v = x from if_neg (by rw [ha]; exact Bool.false_ne_true))
    clear ha h
    go_enter Try.func33, Try.ntmps33
    go_wp2
    go_end0
    rw [HE.out]
    exact ⟨rfl, ρ, l, Gr.refl _ _, H.out, Wrote.refl _ _⟩
  | true =>
    rw [ha] at c11
    have HE := hid (show pWatch x a v = { x with wt := x.wt ++ [(a, v)] } from if_pos ha)
    have HWL := hid h.ins.wt
    have HN := hid hn
    obtain ⟨av, nv, hv, _⟩ := h.ins.wt.form
    have HV := hid hv
    have HNE := hid (show ∀ k, l.vt.ownBlock = some k → k ≠ b from fun k hk e => by have h1 := h.ins.b1; have h2 := h.ins.b4 k hk; rw [e] at h2; omega)
    clear ha h hn
    generalize hvt : l.vt = vt at *
    have HVT := hid hvt
    clear hvt
    subst hv
    go_enter Try.func33, Try.ntmps33
    go_wp2_with (at_builtin; go_must (refine wpList_append_wl rfl (.tmp 18) (.tmp 22) rfl rfl HWL.out rfl (p := (a, v)) rfl (by have := HN.out; omega) (Nat.zero_le _) ?_); intro v' w' hl' hw' hg'; obtain ⟨ra, rl, rc, rfl⟩ : ∃ ra rl rc, v' = .slice ra rl rc := (by (obtain ⟨a9, c9, h9, _⟩ := hl'.form; exact ⟨_, _, _, h9⟩)); have HL' := hid hl'; have HW' := hid hw'; have HG' := hid hg'; have HBK := hid (show w'.heap[b]? = some (.cells (ptC x l) 99 (0, 0)) from (hw'.block b hlt (fun e => HNE.out _ e rfl)).trans H.out.blk); have m1 : w'.cell? ⟨b, 9, none⟩ = some l.vt := (cell_of_blk HBK.out 9); have m2 := frozen_of_blk HBK.out 9; clear hl' hw' hg' c10 f10)
    go_end0
    rw [HE.out]
    obtain ⟨ρ', h1, h2, h3⟩ := H.out.watched (p := (a, v)) HN.out (bid w) HL'.out (by rw [HVT.out]; exact HW'.out) (by rw [HVT.out]; exact HG'.out)
    exact ⟨rfl, ρ', _, h1, h2, h3⟩


end Go.Proofs.Ytjfinnjmcnjciaa
