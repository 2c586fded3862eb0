/-
  THE CONTRACTS of rwq's count, leave, Take and Drop.
-/
import Derived.Test.YtmcmajndcbobpaaRwIx
namespace Go.Proofs.Ytmcmajndcbobpaa
open Go.RowKit
attribute [local go_sem] Later.cell Later.frozen

theorem TkAt.setH {T TM E : TypeId} {w : World} {m : PM} {h g : HD} {B b : Nat} {vw : Value} {ms : MS} {W : World} (k : TkAt T TM E w m h g B b vw ms W) (hold : ∀ j, MemS b vw j → j < w.heap.size) (h' : HD) :
    TkAt T TM E w m h' g B b vw ms (((((W.setCell ⟨w.heap.size + 1, 0, none⟩ (.int .i64 h'.t)).setCell ⟨w.heap.size + 1, 1, none⟩ (.int .i64 h'.l)).setCell ⟨w.heap.size + 1, 2, none⟩ (.int .i64 h'.s)).setCell ⟨w.heap.size + 1, 3, none⟩ (.bool h'.rd)).setCell ⟨w.heap.size + 1, 4, none⟩ (.int .i64 h'.x)) := by
  have hw := (Wrote.refl (fun j => j = w.heap.size + 1) W).set5 (q := w.heap.size + 1) (fun _ => rfl) (.int .i64 h'.t) (.int .i64 h'.l) (.int .i64 h'.s) (.bool h'.rd) (.int .i64 h'.x)
  exact ⟨⟨(hw.block _ k.three.map.lt (by omega)).trans k.three.map, k.three.box.set5 h', k.three.out.kept hw (by omega)⟩, k.mem.kept hw (fun j hj e => by have := hold j hj; omega), k.wrote.set5 (fun h => by omega) _ _ _ _ _⟩
theorem TkAt.out {T TM E : TypeId} {w : World} {m : PM} {h g : HD} {B b : Nat} {vw : Value} {s : MS} {W : World} (k : TkAt T TM E w m h g B b vw s W) (hold : ∀ j, MemS b vw j → j < w.heap.size) (h' : HD) {v : Value} (hv : v = h'.v) (a1 a2 a3 a4 a5 : Value) :
    HandRet T E h' s B b vw w (.returned v) (((((W.setCell ⟨w.heap.size + 1 + 1, 0, none⟩ a1).setCell ⟨w.heap.size + 1 + 1, 1, none⟩ a2).setCell ⟨w.heap.size + 1 + 1, 2, none⟩ a3).setCell ⟨w.heap.size + 1 + 1, 3, none⟩ a4).setCell ⟨w.heap.size + 1 + 1, 4, none⟩ a5) :=
  HandRet.done (w.heap.size + 1 + 1) (by omega) hold k.mem k.wrote hv a1 a2 a3 a4 a5

set_option maxRecDepth 100000 in
set_option maxHeartbeats 4000000 in
theorem count_9 (m : PM) (h : HD) (w : World) (B b : Nat) (vw : Value) (s : MS) (hm : Mem w B b vw s) (hz : m.size ≤ (s.zs.length : Int)) (hsv : h.s = 9) :
    Calls Try.prog 35 #[m.v, .pointer (some ⟨b, 0, none⟩), h.v] w (HandRet 72 2 ⟨h.t, h.l, 0, h.rd, h.x⟩ (s.added (m.at_ 3 h.l 3) (-1)) B b vw w) := by
  have HST := hid (TkAt.start 72 26 2 m h h0 hm)
  have HOLD := hid hm.hold
  have HRD := hid (fun (x : World) => readers_any m h.l x)
  have HMO := hid (fun (x : World) (hb : Mem x B b vw s) => Add_at (m.at_ 3 h.l 3) (-1) x B b vw s hb)
  clear hm hz
  generalize m.at_ 3 h.l 3 = p at *
  generalize s.eAt p = ee at *
  generalize s.vAt p = y at *
  obtain ⟨s1, ml, mt, c, d⟩ := m
  obtain ⟨ht, hl, hs, hr, hx⟩ := h
  simp only at hsv
  subst hsv
  show Calls _ _ #[.agg #[.int .i64 s1, .int .i64 ml, .int .i64 mt, .int .i64 c, .int .i64 d], _, .agg #[.int .i64 ht, .int .i64 hl, .int .i64 9, .bool hr, .int .i64 hx]] _ _
  go_enter Try.func35, Try.ntmps35
  go_upto_region 1 with fail
  refine wp_rename _ HST.out ?_
  intro W hk
  have HK := hid hk
  obtain ⟨m0, m1, m2, m3, m4, _⟩ := hk.three.map.facts
  obtain ⟨d0, d1, d2, d3, d4, df⟩ := hk.three.box.facts
  obtain ⟨o0, o1, o2, o3, o4, of⟩ := hk.three.out.facts
  clear hk HST
  go_wp2_with (first | (go_at_call 41; (with_reducible refine (HRD.out _).mono ?_); rintro e w1 ⟨rfl, hb1⟩; have HK := hid (HK.out.below hb1); clear hb1; clear m0 m1 m2 m3 m4 d0 d1 d2 d3 d4 df o0 o1 o2 o3 o4 of; obtain ⟨m0, m1, m2, m3, m4, _⟩ := HK.out.three.map.facts; obtain ⟨d0, d1, d2, d3, d4, df⟩ := HK.out.three.box.facts; obtain ⟨o0, o1, o2, o3, o4, of⟩ := HK.out.three.out.facts) | (go_at_call 60; (with_reducible refine (HMO.out _ HK.out.mem).mono ?_); rintro e w4 ⟨rfl, hm4, hw4⟩; have HK := hid (HK.out.next hm4 hw4 HOLD.out); clear hm4 hw4; clear m0 m1 m2 m3 m4 d0 d1 d2 d3 d4 df o0 o1 o2 o3 o4 of; obtain ⟨m0, m1, m2, m3, m4, _⟩ := HK.out.three.map.facts; obtain ⟨d0, d1, d2, d3, d4, df⟩ := HK.out.three.box.facts; obtain ⟨o0, o1, o2, o3, o4, of⟩ := HK.out.three.out.facts))
  refine bodyPost_ret (v := (HD.mk ht hl 0 hr hx).v) (by simp [results, Try.results35, go_sem, o0, o1, o2, o3, o4, of]) rfl ?_
  exact (HK.out.setS HOLD.out 0).done HOLD.out _ _ rfl rfl rfl _ _ _ _ _

set_option maxRecDepth 100000 in
set_option maxHeartbeats 4000000 in
theorem count_10 (m : PM) (h : HD) (w : World) (B b : Nat) (vw : Value) (s : MS) (hm : Mem w B b vw s) (hz : m.size ≤ (s.zs.length : Int)) (hsv : h.s = 10) :
    Calls Try.prog 35 #[m.v, .pointer (some ⟨b, 0, none⟩), h.v] w (HandRet 72 2 ⟨h.t, h.l, 11, h.rd, h.x⟩ (s.added (m.at_ 3 h.l 3) (1)) B b vw w) := by
  have HST := hid (TkAt.start 72 26 2 m h h0 hm)
  have HOLD := hid hm.hold
  have HRD := hid (fun (x : World) => readers_any m h.l x)
  have HMO := hid (fun (x : World) (hb : Mem x B b vw s) => Add_at (m.at_ 3 h.l 3) (1) x B b vw s hb)
  clear hm hz
  generalize m.at_ 3 h.l 3 = p at *
  generalize s.eAt p = ee at *
  generalize s.vAt p = y at *
  obtain ⟨s1, ml, mt, c, d⟩ := m
  obtain ⟨ht, hl, hs, hr, hx⟩ := h
  simp only at hsv
  subst hsv
  show Calls _ _ #[.agg #[.int .i64 s1, .int .i64 ml, .int .i64 mt, .int .i64 c, .int .i64 d], _, .agg #[.int .i64 ht, .int .i64 hl, .int .i64 10, .bool hr, .int .i64 hx]] _ _
  go_enter Try.func35, Try.ntmps35
  go_upto_region 1 with fail
  refine wp_rename _ HST.out ?_
  intro W hk
  have HK := hid hk
  obtain ⟨m0, m1, m2, m3, m4, _⟩ := hk.three.map.facts
  obtain ⟨d0, d1, d2, d3, d4, df⟩ := hk.three.box.facts
  obtain ⟨o0, o1, o2, o3, o4, of⟩ := hk.three.out.facts
  clear hk HST
  go_wp2_with (first | (go_at_call 41; (with_reducible refine (HRD.out _).mono ?_); rintro e w1 ⟨rfl, hb1⟩; have HK := hid (HK.out.below hb1); clear hb1; clear m0 m1 m2 m3 m4 d0 d1 d2 d3 d4 df o0 o1 o2 o3 o4 of; obtain ⟨m0, m1, m2, m3, m4, _⟩ := HK.out.three.map.facts; obtain ⟨d0, d1, d2, d3, d4, df⟩ := HK.out.three.box.facts; obtain ⟨o0, o1, o2, o3, o4, of⟩ := HK.out.three.out.facts) | (go_at_call 60; (with_reducible refine (HMO.out _ HK.out.mem).mono ?_); rintro e w4 ⟨rfl, hm4, hw4⟩; have HK := hid (HK.out.next hm4 hw4 HOLD.out); clear hm4 hw4; clear m0 m1 m2 m3 m4 d0 d1 d2 d3 d4 df o0 o1 o2 o3 o4 of; obtain ⟨m0, m1, m2, m3, m4, _⟩ := HK.out.three.map.facts; obtain ⟨d0, d1, d2, d3, d4, df⟩ := HK.out.three.box.facts; obtain ⟨o0, o1, o2, o3, o4, of⟩ := HK.out.three.out.facts))
  refine bodyPost_ret (v := (HD.mk ht hl 11 hr hx).v) (by simp [results, Try.results35, go_sem, o0, o1, o2, o3, o4, of]) rfl ?_
  exact (HK.out.setS HOLD.out 11).done HOLD.out _ _ rfl rfl rfl _ _ _ _ _

theorem row4 (w : World) (q : Nat) (E : TypeId) (h : w.heap[q]? = some (.cells #[.int .i64 9, .int .i64 7, .int .i64 6, .int .i64 8] E (0, 0))) : IntRow w (some ⟨q, 0, none⟩) 4 [9, 7, 6, 8] := by
  refine ⟨rfl, .inr ⟨_, rfl, fun j hj => ?_⟩⟩
  rw [add_at]
  rcases (show j = 0 ∨ j = 1 ∨ j = 2 ∨ j = 3 by omega) with rfl | rfl | rfl | rfl
  · exact cell_of_blk h 0
  · exact cell_of_blk h 1
  · exact cell_of_blk h 2
  · exact cell_of_blk h 3
theorem ix4 (w : World) (q : Nat) (E : TypeId) (h : w.heap[q]? = some (.cells #[.int .i64 9, .int .i64 7, .int .i64 6, .int .i64 8] E (0, 0))) (x : Int) (hx : x = 9 ∨ x = 7 ∨ x = 6 ∨ x = 8) :
    Calls Try.prog 68 #[.slice (some ⟨q, 0, none⟩) 4 4, .int .i64 x] w fun e w' => e = .returned (.int .i64 (upI x - 11)) ∧ w = w' := by
  have hr := row4 w q E h
  rcases hx with rfl | rfl | rfl | rfl
  · exact Index_at _ 4 4 _ w hr (by decide) 9 0 (by decide) rfl (fun j hj => by omega)
  · exact Index_at _ 4 4 _ w hr (by decide) 7 1 (by decide) rfl (fun j hj => by obtain rfl : j = 0 := by omega
                                                                                decide)
  · exact Index_at _ 4 4 _ w hr (by decide) 6 2 (by decide) rfl (fun j hj => by rcases (show j = 0 ∨ j = 1 by omega) with rfl | rfl <;> decide)
  · exact Index_at _ 4 4 _ w hr (by decide) 8 3 (by decide) rfl (fun j hj => by rcases (show j = 0 ∨ j = 1 ∨ j = 2 by omega) with rfl | rfl | rfl <;> decide)
theorem upI_small (x : Int) : -10 ≤ upI x - 11 ∧ upI x - 11 ≤ 10 := by
  unfold upI
  repeat' split
  all_goals decide

set_option maxRecDepth 100000 in
set_option maxHeartbeats 4000000 in
theorem leave_11 (m : PM) (h : HD) (w : World) (B b : Nat) (vw : Value) (s : MS) (hm : Mem w B b vw s) (hz : m.size ≤ (s.zs.length : Int)) (hsv : h.s = 11) :
    Calls Try.prog 42 #[m.v, .pointer (some ⟨b, 0, none⟩), h.v] w (HandRet 72 2 (rwLeave m s h).1 (rwLeave m s h).2 B b vw w) := by
  have HST := hid (TkAt.start 72 26 2 m h h0 hm)
  have HOLD := hid hm.hold
  have hdr := mcDrop_range (m := m) (s := s) (h := ⟨h.t, h.l, 9, h.rd, h.x⟩) (by simp)
  have HDR := hid (fun (x : World) (hb : Mem x B b vw s) => mDrop_any m ⟨h.t, h.l, 9, h.rd, h.x⟩ x B b vw s hb hz)
  have HEQ : rwLeave m s h = (outH (mcDrop m s ⟨h.t, h.l, 9, h.rd, h.x⟩).1, (mcDrop m s ⟨h.t, h.l, 9, h.rd, h.x⟩).2) := by unfold rwLeave inH; rw [hsv]; rfl
  rw [HEQ]
  clear HEQ
  dsimp only
  clear hm hz
  generalize (mcDrop m s ⟨h.t, h.l, 9, h.rd, h.x⟩).2 = s2 at *
  generalize (mcDrop m s ⟨h.t, h.l, 9, h.rd, h.x⟩).1 = g at *
  obtain ⟨gt, gl, gs, gr, gx⟩ := g
  try simp only at hdr
  obtain ⟨s1, ml, mt, c, d⟩ := m
  obtain ⟨ht, hl, hs, hr, hx⟩ := h
  simp only at hsv
  subst hsv
  show Calls _ _ #[.agg #[.int .i64 s1, .int .i64 ml, .int .i64 mt, .int .i64 c, .int .i64 d], _, .agg #[.int .i64 ht, .int .i64 hl, .int .i64 11, .bool hr, .int .i64 hx]] _ _
  go_enter Try.func42, Try.ntmps42
  go_upto_region 1 with fail
  refine wp_rename _ HST.out ?_
  intro W hk
  have HK := hid hk
  obtain ⟨m0, m1, m2, m3, m4, _⟩ := hk.three.map.facts
  obtain ⟨d0, d1, d2, d3, d4, df⟩ := hk.three.box.facts
  obtain ⟨o0, o1, o2, o3, o4, of⟩ := hk.three.out.facts
  clear hk HST
  go_upto_region 2 with fail
  refine wp_rename (fun W' => TkAt 72 26 2 w ⟨s1, ml, mt, c, d⟩ ⟨ht, hl, 11, hr, hx⟩ h0 B b vw s W' ∧ W'.heap[W.heap.size]? = some (.cells #[.int .i64 9, .int .i64 7, .int .i64 6, .int .i64 8] 3 (0, 0)) ∧ w.heap.size + 1 + 1 < W.heap.size) ⟨HK.out.below (bnew (bid W) _), heap_alloc_new _ _, HK.out.three.out.lt⟩ ?_
  generalize W.heap.size = qs
  clear HK m0 m1 m2 m3 m4 d0 d1 d2 d3 d4 df o0 o1 o2 o3 o4 of
  rintro W1 ⟨hk, hq, hqs⟩
  have HK := hid hk
  have HQ := hid hq
  obtain ⟨m0, m1, m2, m3, m4, _⟩ := HK.out.three.map.facts
  obtain ⟨d0, d1, d2, d3, d4, df⟩ := HK.out.three.box.facts
  obtain ⟨o0, o1, o2, o3, o4, of⟩ := HK.out.three.out.facts
  have c0 : W1.cell? ⟨qs, 0, none⟩ = some (.int .i64 9) := cell_of_blk hq 0
  clear hk hq
  go_upto_region 3 with fail
  refine wp_rename (fun W' => TkAt 72 26 2 w ⟨s1, ml, mt, c, d⟩ ⟨ht, hl, 9, hr, hx⟩ h0 B b vw s W' ∧ W'.heap[qs]? = some (.cells #[.int .i64 9, .int .i64 7, .int .i64 6, .int .i64 8] 3 (0, 0))) ⟨HK.out.setS HOLD.out 9, (((Wrote.refl (fun j => j = w.heap.size + 1) W1).setCell (p := ⟨w.heap.size + 1, 2, none⟩) (fun _ => rfl) _).block qs (lt_of_block HQ.out) (by omega)).trans HQ.out⟩ ?_
  clear HK HQ m0 m1 m2 m3 m4 d0 d1 d2 d3 d4 df o0 o1 o2 o3 o4 of c0
  rintro W2 ⟨hk, hq⟩
  have HK := hid hk
  have HQ := hid hq
  obtain ⟨m0, m1, m2, m3, m4, _⟩ := HK.out.three.map.facts
  obtain ⟨d0, d1, d2, d3, d4, df⟩ := HK.out.three.box.facts
  obtain ⟨o0, o1, o2, o3, o4, of⟩ := HK.out.three.out.facts
  clear hk hq
  go_upto_region 4 with (go_at_call 33; (with_reducible refine (HDR.out _ HK.out.mem).mono ?_); rintro e w3 ⟨rfl, hm3, hw3⟩; have HQ := hid ((hw3.block qs (lt_of_block HQ.out) (fun e => by have := HOLD.out qs e; omega)).trans HQ.out); have HK := hid (HK.out.next hm3 hw3 HOLD.out); clear hm3 hw3; clear m0 m1 m2 m3 m4 d0 d1 d2 d3 d4 df o0 o1 o2 o3 o4 of; obtain ⟨m0, m1, m2, m3, m4, _⟩ := HK.out.three.map.facts; obtain ⟨d0, d1, d2, d3, d4, df⟩ := HK.out.three.box.facts; obtain ⟨o0, o1, o2, o3, o4, of⟩ := HK.out.three.out.facts)
  refine wp_rename (fun W' => TkAt 72 26 2 w ⟨s1, ml, mt, c, d⟩ ⟨gt, gl, gs, gr, gx⟩ h0 B b vw s2 W' ∧ W'.heap[qs]? = some (.cells #[.int .i64 9, .int .i64 7, .int .i64 6, .int .i64 8] 3 (0, 0))) ⟨HK.out.setH HOLD.out ⟨gt, gl, gs, gr, gx⟩, (((Wrote.refl (fun j => j = w.heap.size + 1) w3).set5 (q := w.heap.size + 1) (fun _ => rfl) _ _ _ _ _).block qs (lt_of_block HQ.out) (by omega)).trans HQ.out⟩ ?_
  clear HK HQ HDR m0 m1 m2 m3 m4 d0 d1 d2 d3 d4 df o0 o1 o2 o3 o4 of
  rintro W4 ⟨hk, hq⟩
  have HK := hid hk
  have HQ := hid hq
  obtain ⟨d0, d1, d2, d3, d4, df⟩ := HK.out.three.box.facts
  obtain ⟨o0, o1, o2, o3, o4, of⟩ := HK.out.three.out.facts
  clear hk hq
  rcases hdr with rfl | hdr
  · go_wp2_with fail
    refine bodyPost_ret (v := (HD.mk gt gl 9 gr gx).v) (by simp [results, Try.results42, go_sem, o0, o1, o2, o3, o4, of]) rfl ?_
    exact (HK.out.setS HOLD.out 9).done HOLD.out _ _ rfl rfl rfl _ _ _ _ _
  have HIX := hid (ix4 W4 qs _ HQ.out gs hdr)
  have hus := upI_small gs
  have hg0 : gs ≠ 0 := by omega
  have hgi : (0 : Int) ≤ gs := by omega
  have HUP := hid (show (11 : Int) + (upI gs - 11) = upI gs by omega)
  generalize hup : upI gs = u at *
  have HU := hid hup
  clear hdr hup
  generalize hui : u - 11 = ui at *
  go_wp2_with ((go_at_call 68; (with_reducible refine HIX.out.mono ?_); rintro e w5 ⟨rfl, rfl⟩))
  rw [HUP.out]
  refine bodyPost_ret (v := (HD.mk gt gl u gr gx).v) (by simp [results, Try.results42, go_sem, o0, o1, o2, o3, o4, of]) rfl ?_
  exact (HK.out.setS HOLD.out u).done HOLD.out _ _ (by unfold outH; rw [HU.out]) rfl rfl _ _ _ _ _

set_option maxRecDepth 100000 in
set_option maxHeartbeats 4000000 in
theorem leave_12 (m : PM) (h : HD) (w : World) (B b : Nat) (vw : Value) (s : MS) (hm : Mem w B b vw s) (hz : m.size ≤ (s.zs.length : Int)) (hsv : h.s = 12) :
    Calls Try.prog 42 #[m.v, .pointer (some ⟨b, 0, none⟩), h.v] w (HandRet 72 2 (rwLeave m s h).1 (rwLeave m s h).2 B b vw w) := by
  have HST := hid (TkAt.start 72 26 2 m h h0 hm)
  have HOLD := hid hm.hold
  have hdr := mcDrop_range (m := m) (s := s) (h := ⟨h.t, h.l, 7, h.rd, h.x⟩) (by simp)
  have HDR := hid (fun (x : World) (hb : Mem x B b vw s) => mDrop_any m ⟨h.t, h.l, 7, h.rd, h.x⟩ x B b vw s hb hz)
  have HEQ : rwLeave m s h = (outH (mcDrop m s ⟨h.t, h.l, 7, h.rd, h.x⟩).1, (mcDrop m s ⟨h.t, h.l, 7, h.rd, h.x⟩).2) := by unfold rwLeave inH; rw [hsv]; rfl
  rw [HEQ]
  clear HEQ
  dsimp only
  clear hm hz
  generalize (mcDrop m s ⟨h.t, h.l, 7, h.rd, h.x⟩).2 = s2 at *
  generalize (mcDrop m s ⟨h.t, h.l, 7, h.rd, h.x⟩).1 = g at *
  obtain ⟨gt, gl, gs, gr, gx⟩ := g
  try simp only at hdr
  obtain ⟨s1, ml, mt, c, d⟩ := m
  obtain ⟨ht, hl, hs, hr, hx⟩ := h
  simp only at hsv
  subst hsv
  show Calls _ _ #[.agg #[.int .i64 s1, .int .i64 ml, .int .i64 mt, .int .i64 c, .int .i64 d], _, .agg #[.int .i64 ht, .int .i64 hl, .int .i64 12, .bool hr, .int .i64 hx]] _ _
  go_enter Try.func42, Try.ntmps42
  go_upto_region 1 with fail
  refine wp_rename _ HST.out ?_
  intro W hk
  have HK := hid hk
  obtain ⟨m0, m1, m2, m3, m4, _⟩ := hk.three.map.facts
  obtain ⟨d0, d1, d2, d3, d4, df⟩ := hk.three.box.facts
  obtain ⟨o0, o1, o2, o3, o4, of⟩ := hk.three.out.facts
  clear hk HST
  go_upto_region 2 with fail
  refine wp_rename (fun W' => TkAt 72 26 2 w ⟨s1, ml, mt, c, d⟩ ⟨ht, hl, 12, hr, hx⟩ h0 B b vw s W' ∧ W'.heap[W.heap.size]? = some (.cells #[.int .i64 9, .int .i64 7, .int .i64 6, .int .i64 8] 3 (0, 0)) ∧ w.heap.size + 1 + 1 < W.heap.size) ⟨HK.out.below (bnew (bid W) _), heap_alloc_new _ _, HK.out.three.out.lt⟩ ?_
  generalize W.heap.size = qs
  clear HK m0 m1 m2 m3 m4 d0 d1 d2 d3 d4 df o0 o1 o2 o3 o4 of
  rintro W1 ⟨hk, hq, hqs⟩
  have HK := hid hk
  have HQ := hid hq
  obtain ⟨m0, m1, m2, m3, m4, _⟩ := HK.out.three.map.facts
  obtain ⟨d0, d1, d2, d3, d4, df⟩ := HK.out.three.box.facts
  obtain ⟨o0, o1, o2, o3, o4, of⟩ := HK.out.three.out.facts
  have c0 : W1.cell? ⟨qs, 1, none⟩ = some (.int .i64 7) := cell_of_blk hq 1
  clear hk hq
  go_upto_region 3 with fail
  refine wp_rename (fun W' => TkAt 72 26 2 w ⟨s1, ml, mt, c, d⟩ ⟨ht, hl, 7, hr, hx⟩ h0 B b vw s W' ∧ W'.heap[qs]? = some (.cells #[.int .i64 9, .int .i64 7, .int .i64 6, .int .i64 8] 3 (0, 0))) ⟨HK.out.setS HOLD.out 7, (((Wrote.refl (fun j => j = w.heap.size + 1) W1).setCell (p := ⟨w.heap.size + 1, 2, none⟩) (fun _ => rfl) _).block qs (lt_of_block HQ.out) (by omega)).trans HQ.out⟩ ?_
  clear HK HQ m0 m1 m2 m3 m4 d0 d1 d2 d3 d4 df o0 o1 o2 o3 o4 of c0
  rintro W2 ⟨hk, hq⟩
  have HK := hid hk
  have HQ := hid hq
  obtain ⟨m0, m1, m2, m3, m4, _⟩ := HK.out.three.map.facts
  obtain ⟨d0, d1, d2, d3, d4, df⟩ := HK.out.three.box.facts
  obtain ⟨o0, o1, o2, o3, o4, of⟩ := HK.out.three.out.facts
  clear hk hq
  go_upto_region 4 with (go_at_call 33; (with_reducible refine (HDR.out _ HK.out.mem).mono ?_); rintro e w3 ⟨rfl, hm3, hw3⟩; have HQ := hid ((hw3.block qs (lt_of_block HQ.out) (fun e => by have := HOLD.out qs e; omega)).trans HQ.out); have HK := hid (HK.out.next hm3 hw3 HOLD.out); clear hm3 hw3; clear m0 m1 m2 m3 m4 d0 d1 d2 d3 d4 df o0 o1 o2 o3 o4 of; obtain ⟨m0, m1, m2, m3, m4, _⟩ := HK.out.three.map.facts; obtain ⟨d0, d1, d2, d3, d4, df⟩ := HK.out.three.box.facts; obtain ⟨o0, o1, o2, o3, o4, of⟩ := HK.out.three.out.facts)
  refine wp_rename (fun W' => TkAt 72 26 2 w ⟨s1, ml, mt, c, d⟩ ⟨gt, gl, gs, gr, gx⟩ h0 B b vw s2 W' ∧ W'.heap[qs]? = some (.cells #[.int .i64 9, .int .i64 7, .int .i64 6, .int .i64 8] 3 (0, 0))) ⟨HK.out.setH HOLD.out ⟨gt, gl, gs, gr, gx⟩, (((Wrote.refl (fun j => j = w.heap.size + 1) w3).set5 (q := w.heap.size + 1) (fun _ => rfl) _ _ _ _ _).block qs (lt_of_block HQ.out) (by omega)).trans HQ.out⟩ ?_
  clear HK HQ HDR m0 m1 m2 m3 m4 d0 d1 d2 d3 d4 df o0 o1 o2 o3 o4 of
  rintro W4 ⟨hk, hq⟩
  have HK := hid hk
  have HQ := hid hq
  obtain ⟨d0, d1, d2, d3, d4, df⟩ := HK.out.three.box.facts
  obtain ⟨o0, o1, o2, o3, o4, of⟩ := HK.out.three.out.facts
  clear hk hq
  rcases hdr with rfl | hdr
  · go_wp2_with fail
    refine bodyPost_ret (v := (HD.mk gt gl 9 gr gx).v) (by simp [results, Try.results42, go_sem, o0, o1, o2, o3, o4, of]) rfl ?_
    exact (HK.out.setS HOLD.out 9).done HOLD.out _ _ rfl rfl rfl _ _ _ _ _
  have HIX := hid (ix4 W4 qs _ HQ.out gs hdr)
  have hus := upI_small gs
  have hg0 : gs ≠ 0 := by omega
  have hgi : (0 : Int) ≤ gs := by omega
  have HUP := hid (show (11 : Int) + (upI gs - 11) = upI gs by omega)
  generalize hup : upI gs = u at *
  have HU := hid hup
  clear hdr hup
  generalize hui : u - 11 = ui at *
  go_wp2_with ((go_at_call 68; (with_reducible refine HIX.out.mono ?_); rintro e w5 ⟨rfl, rfl⟩))
  rw [HUP.out]
  refine bodyPost_ret (v := (HD.mk gt gl u gr gx).v) (by simp [results, Try.results42, go_sem, o0, o1, o2, o3, o4, of]) rfl ?_
  exact (HK.out.setS HOLD.out u).done HOLD.out _ _ (by unfold outH; rw [HU.out]) rfl rfl _ _ _ _ _

set_option maxRecDepth 100000 in
set_option maxHeartbeats 4000000 in
theorem leave_13 (m : PM) (h : HD) (w : World) (B b : Nat) (vw : Value) (s : MS) (hm : Mem w B b vw s) (hz : m.size ≤ (s.zs.length : Int)) (hsv : h.s = 13) :
    Calls Try.prog 42 #[m.v, .pointer (some ⟨b, 0, none⟩), h.v] w (HandRet 72 2 (rwLeave m s h).1 (rwLeave m s h).2 B b vw w) := by
  have HST := hid (TkAt.start 72 26 2 m h h0 hm)
  have HOLD := hid hm.hold
  have hdr := mcDrop_range (m := m) (s := s) (h := ⟨h.t, h.l, 6, h.rd, h.x⟩) (by simp)
  have HDR := hid (fun (x : World) (hb : Mem x B b vw s) => mDrop_any m ⟨h.t, h.l, 6, h.rd, h.x⟩ x B b vw s hb hz)
  have HEQ : rwLeave m s h = (outH (mcDrop m s ⟨h.t, h.l, 6, h.rd, h.x⟩).1, (mcDrop m s ⟨h.t, h.l, 6, h.rd, h.x⟩).2) := by unfold rwLeave inH; rw [hsv]; rfl
  rw [HEQ]
  clear HEQ
  dsimp only
  clear hm hz
  generalize (mcDrop m s ⟨h.t, h.l, 6, h.rd, h.x⟩).2 = s2 at *
  generalize (mcDrop m s ⟨h.t, h.l, 6, h.rd, h.x⟩).1 = g at *
  obtain ⟨gt, gl, gs, gr, gx⟩ := g
  try simp only at hdr
  obtain ⟨s1, ml, mt, c, d⟩ := m
  obtain ⟨ht, hl, hs, hr, hx⟩ := h
  simp only at hsv
  subst hsv
  show Calls _ _ #[.agg #[.int .i64 s1, .int .i64 ml, .int .i64 mt, .int .i64 c, .int .i64 d], _, .agg #[.int .i64 ht, .int .i64 hl, .int .i64 13, .bool hr, .int .i64 hx]] _ _
  go_enter Try.func42, Try.ntmps42
  go_upto_region 1 with fail
  refine wp_rename _ HST.out ?_
  intro W hk
  have HK := hid hk
  obtain ⟨m0, m1, m2, m3, m4, _⟩ := hk.three.map.facts
  obtain ⟨d0, d1, d2, d3, d4, df⟩ := hk.three.box.facts
  obtain ⟨o0, o1, o2, o3, o4, of⟩ := hk.three.out.facts
  clear hk HST
  go_upto_region 2 with fail
  refine wp_rename (fun W' => TkAt 72 26 2 w ⟨s1, ml, mt, c, d⟩ ⟨ht, hl, 13, hr, hx⟩ h0 B b vw s W' ∧ W'.heap[W.heap.size]? = some (.cells #[.int .i64 9, .int .i64 7, .int .i64 6, .int .i64 8] 3 (0, 0)) ∧ w.heap.size + 1 + 1 < W.heap.size) ⟨HK.out.below (bnew (bid W) _), heap_alloc_new _ _, HK.out.three.out.lt⟩ ?_
  generalize W.heap.size = qs
  clear HK m0 m1 m2 m3 m4 d0 d1 d2 d3 d4 df o0 o1 o2 o3 o4 of
  rintro W1 ⟨hk, hq, hqs⟩
  have HK := hid hk
  have HQ := hid hq
  obtain ⟨m0, m1, m2, m3, m4, _⟩ := HK.out.three.map.facts
  obtain ⟨d0, d1, d2, d3, d4, df⟩ := HK.out.three.box.facts
  obtain ⟨o0, o1, o2, o3, o4, of⟩ := HK.out.three.out.facts
  have c0 : W1.cell? ⟨qs, 2, none⟩ = some (.int .i64 6) := cell_of_blk hq 2
  clear hk hq
  go_upto_region 3 with fail
  refine wp_rename (fun W' => TkAt 72 26 2 w ⟨s1, ml, mt, c, d⟩ ⟨ht, hl, 6, hr, hx⟩ h0 B b vw s W' ∧ W'.heap[qs]? = some (.cells #[.int .i64 9, .int .i64 7, .int .i64 6, .int .i64 8] 3 (0, 0))) ⟨HK.out.setS HOLD.out 6, (((Wrote.refl (fun j => j = w.heap.size + 1) W1).setCell (p := ⟨w.heap.size + 1, 2, none⟩) (fun _ => rfl) _).block qs (lt_of_block HQ.out) (by omega)).trans HQ.out⟩ ?_
  clear HK HQ m0 m1 m2 m3 m4 d0 d1 d2 d3 d4 df o0 o1 o2 o3 o4 of c0
  rintro W2 ⟨hk, hq⟩
  have HK := hid hk
  have HQ := hid hq
  obtain ⟨m0, m1, m2, m3, m4, _⟩ := HK.out.three.map.facts
  obtain ⟨d0, d1, d2, d3, d4, df⟩ := HK.out.three.box.facts
  obtain ⟨o0, o1, o2, o3, o4, of⟩ := HK.out.three.out.facts
  clear hk hq
  go_upto_region 4 with (go_at_call 33; (with_reducible refine (HDR.out _ HK.out.mem).mono ?_); rintro e w3 ⟨rfl, hm3, hw3⟩; have HQ := hid ((hw3.block qs (lt_of_block HQ.out) (fun e => by have := HOLD.out qs e; omega)).trans HQ.out); have HK := hid (HK.out.next hm3 hw3 HOLD.out); clear hm3 hw3; clear m0 m1 m2 m3 m4 d0 d1 d2 d3 d4 df o0 o1 o2 o3 o4 of; obtain ⟨m0, m1, m2, m3, m4, _⟩ := HK.out.three.map.facts; obtain ⟨d0, d1, d2, d3, d4, df⟩ := HK.out.three.box.facts; obtain ⟨o0, o1, o2, o3, o4, of⟩ := HK.out.three.out.facts)
  refine wp_rename (fun W' => TkAt 72 26 2 w ⟨s1, ml, mt, c, d⟩ ⟨gt, gl, gs, gr, gx⟩ h0 B b vw s2 W' ∧ W'.heap[qs]? = some (.cells #[.int .i64 9, .int .i64 7, .int .i64 6, .int .i64 8] 3 (0, 0))) ⟨HK.out.setH HOLD.out ⟨gt, gl, gs, gr, gx⟩, (((Wrote.refl (fun j => j = w.heap.size + 1) w3).set5 (q := w.heap.size + 1) (fun _ => rfl) _ _ _ _ _).block qs (lt_of_block HQ.out) (by omega)).trans HQ.out⟩ ?_
  clear HK HQ HDR m0 m1 m2 m3 m4 d0 d1 d2 d3 d4 df o0 o1 o2 o3 o4 of
  rintro W4 ⟨hk, hq⟩
  have HK := hid hk
  have HQ := hid hq
  obtain ⟨d0, d1, d2, d3, d4, df⟩ := HK.out.three.box.facts
  obtain ⟨o0, o1, o2, o3, o4, of⟩ := HK.out.three.out.facts
  clear hk hq
  rcases hdr with rfl | hdr
  · go_wp2_with fail
    refine bodyPost_ret (v := (HD.mk gt gl 9 gr gx).v) (by simp [results, Try.results42, go_sem, o0, o1, o2, o3, o4, of]) rfl ?_
    exact (HK.out.setS HOLD.out 9).done HOLD.out _ _ rfl rfl rfl _ _ _ _ _
  have HIX := hid (ix4 W4 qs _ HQ.out gs hdr)
  have hus := upI_small gs
  have hg0 : gs ≠ 0 := by omega
  have hgi : (0 : Int) ≤ gs := by omega
  have HUP := hid (show (11 : Int) + (upI gs - 11) = upI gs by omega)
  generalize hup : upI gs = u at *
  have HU := hid hup
  clear hdr hup
  generalize hui : u - 11 = ui at *
  go_wp2_with ((go_at_call 68; (with_reducible refine HIX.out.mono ?_); rintro e w5 ⟨rfl, rfl⟩))
  rw [HUP.out]
  refine bodyPost_ret (v := (HD.mk gt gl u gr gx).v) (by simp [results, Try.results42, go_sem, o0, o1, o2, o3, o4, of]) rfl ?_
  exact (HK.out.setS HOLD.out u).done HOLD.out _ _ (by unfold outH; rw [HU.out]) rfl rfl _ _ _ _ _

set_option maxRecDepth 100000 in
set_option maxHeartbeats 4000000 in
theorem leave_14 (m : PM) (h : HD) (w : World) (B b : Nat) (vw : Value) (s : MS) (hm : Mem w B b vw s) (hz : m.size ≤ (s.zs.length : Int)) (hsv : h.s = 14) :
    Calls Try.prog 42 #[m.v, .pointer (some ⟨b, 0, none⟩), h.v] w (HandRet 72 2 (rwLeave m s h).1 (rwLeave m s h).2 B b vw w) := by
  have HST := hid (TkAt.start 72 26 2 m h h0 hm)
  have HOLD := hid hm.hold
  have hdr := mcDrop_range (m := m) (s := s) (h := ⟨h.t, h.l, 8, h.rd, h.x⟩) (by simp)
  have HDR := hid (fun (x : World) (hb : Mem x B b vw s) => mDrop_any m ⟨h.t, h.l, 8, h.rd, h.x⟩ x B b vw s hb hz)
  have HEQ : rwLeave m s h = (outH (mcDrop m s ⟨h.t, h.l, 8, h.rd, h.x⟩).1, (mcDrop m s ⟨h.t, h.l, 8, h.rd, h.x⟩).2) := by unfold rwLeave inH; rw [hsv]; rfl
  rw [HEQ]
  clear HEQ
  dsimp only
  clear hm hz
  generalize (mcDrop m s ⟨h.t, h.l, 8, h.rd, h.x⟩).2 = s2 at *
  generalize (mcDrop m s ⟨h.t, h.l, 8, h.rd, h.x⟩).1 = g at *
  obtain ⟨gt, gl, gs, gr, gx⟩ := g
  try simp only at hdr
  obtain ⟨s1, ml, mt, c, d⟩ := m
  obtain ⟨ht, hl, hs, hr, hx⟩ := h
  simp only at hsv
  subst hsv
  show Calls _ _ #[.agg #[.int .i64 s1, .int .i64 ml, .int .i64 mt, .int .i64 c, .int .i64 d], _, .agg #[.int .i64 ht, .int .i64 hl, .int .i64 14, .bool hr, .int .i64 hx]] _ _
  go_enter Try.func42, Try.ntmps42
  go_upto_region 1 with fail
  refine wp_rename _ HST.out ?_
  intro W hk
  have HK := hid hk
  obtain ⟨m0, m1, m2, m3, m4, _⟩ := hk.three.map.facts
  obtain ⟨d0, d1, d2, d3, d4, df⟩ := hk.three.box.facts
  obtain ⟨o0, o1, o2, o3, o4, of⟩ := hk.three.out.facts
  clear hk HST
  go_upto_region 2 with fail
  refine wp_rename (fun W' => TkAt 72 26 2 w ⟨s1, ml, mt, c, d⟩ ⟨ht, hl, 14, hr, hx⟩ h0 B b vw s W' ∧ W'.heap[W.heap.size]? = some (.cells #[.int .i64 9, .int .i64 7, .int .i64 6, .int .i64 8] 3 (0, 0)) ∧ w.heap.size + 1 + 1 < W.heap.size) ⟨HK.out.below (bnew (bid W) _), heap_alloc_new _ _, HK.out.three.out.lt⟩ ?_
  generalize W.heap.size = qs
  clear HK m0 m1 m2 m3 m4 d0 d1 d2 d3 d4 df o0 o1 o2 o3 o4 of
  rintro W1 ⟨hk, hq, hqs⟩
  have HK := hid hk
  have HQ := hid hq
  obtain ⟨m0, m1, m2, m3, m4, _⟩ := HK.out.three.map.facts
  obtain ⟨d0, d1, d2, d3, d4, df⟩ := HK.out.three.box.facts
  obtain ⟨o0, o1, o2, o3, o4, of⟩ := HK.out.three.out.facts
  have c0 : W1.cell? ⟨qs, 3, none⟩ = some (.int .i64 8) := cell_of_blk hq 3
  clear hk hq
  go_upto_region 3 with fail
  refine wp_rename (fun W' => TkAt 72 26 2 w ⟨s1, ml, mt, c, d⟩ ⟨ht, hl, 8, hr, hx⟩ h0 B b vw s W' ∧ W'.heap[qs]? = some (.cells #[.int .i64 9, .int .i64 7, .int .i64 6, .int .i64 8] 3 (0, 0))) ⟨HK.out.setS HOLD.out 8, (((Wrote.refl (fun j => j = w.heap.size + 1) W1).setCell (p := ⟨w.heap.size + 1, 2, none⟩) (fun _ => rfl) _).block qs (lt_of_block HQ.out) (by omega)).trans HQ.out⟩ ?_
  clear HK HQ m0 m1 m2 m3 m4 d0 d1 d2 d3 d4 df o0 o1 o2 o3 o4 of c0
  rintro W2 ⟨hk, hq⟩
  have HK := hid hk
  have HQ := hid hq
  obtain ⟨m0, m1, m2, m3, m4, _⟩ := HK.out.three.map.facts
  obtain ⟨d0, d1, d2, d3, d4, df⟩ := HK.out.three.box.facts
  obtain ⟨o0, o1, o2, o3, o4, of⟩ := HK.out.three.out.facts
  clear hk hq
  go_upto_region 4 with (go_at_call 33; (with_reducible refine (HDR.out _ HK.out.mem).mono ?_); rintro e w3 ⟨rfl, hm3, hw3⟩; have HQ := hid ((hw3.block qs (lt_of_block HQ.out) (fun e => by have := HOLD.out qs e; omega)).trans HQ.out); have HK := hid (HK.out.next hm3 hw3 HOLD.out); clear hm3 hw3; clear m0 m1 m2 m3 m4 d0 d1 d2 d3 d4 df o0 o1 o2 o3 o4 of; obtain ⟨m0, m1, m2, m3, m4, _⟩ := HK.out.three.map.facts; obtain ⟨d0, d1, d2, d3, d4, df⟩ := HK.out.three.box.facts; obtain ⟨o0, o1, o2, o3, o4, of⟩ := HK.out.three.out.facts)
  refine wp_rename (fun W' => TkAt 72 26 2 w ⟨s1, ml, mt, c, d⟩ ⟨gt, gl, gs, gr, gx⟩ h0 B b vw s2 W' ∧ W'.heap[qs]? = some (.cells #[.int .i64 9, .int .i64 7, .int .i64 6, .int .i64 8] 3 (0, 0))) ⟨HK.out.setH HOLD.out ⟨gt, gl, gs, gr, gx⟩, (((Wrote.refl (fun j => j = w.heap.size + 1) w3).set5 (q := w.heap.size + 1) (fun _ => rfl) _ _ _ _ _).block qs (lt_of_block HQ.out) (by omega)).trans HQ.out⟩ ?_
  clear HK HQ HDR m0 m1 m2 m3 m4 d0 d1 d2 d3 d4 df o0 o1 o2 o3 o4 of
  rintro W4 ⟨hk, hq⟩
  have HK := hid hk
  have HQ := hid hq
  obtain ⟨d0, d1, d2, d3, d4, df⟩ := HK.out.three.box.facts
  obtain ⟨o0, o1, o2, o3, o4, of⟩ := HK.out.three.out.facts
  clear hk hq
  rcases hdr with rfl | hdr
  · go_wp2_with fail
    refine bodyPost_ret (v := (HD.mk gt gl 9 gr gx).v) (by simp [results, Try.results42, go_sem, o0, o1, o2, o3, o4, of]) rfl ?_
    exact (HK.out.setS HOLD.out 9).done HOLD.out _ _ rfl rfl rfl _ _ _ _ _
  have HIX := hid (ix4 W4 qs _ HQ.out gs hdr)
  have hus := upI_small gs
  have hg0 : gs ≠ 0 := by omega
  have hgi : (0 : Int) ≤ gs := by omega
  have HUP := hid (show (11 : Int) + (upI gs - 11) = upI gs by omega)
  generalize hup : upI gs = u at *
  have HU := hid hup
  clear hdr hup
  generalize hui : u - 11 = ui at *
  go_wp2_with ((go_at_call 68; (with_reducible refine HIX.out.mono ?_); rintro e w5 ⟨rfl, rfl⟩))
  rw [HUP.out]
  refine bodyPost_ret (v := (HD.mk gt gl u gr gx).v) (by simp [results, Try.results42, go_sem, o0, o1, o2, o3, o4, of]) rfl ?_
  exact (HK.out.setS HOLD.out u).done HOLD.out _ _ (by unfold outH; rw [HU.out]) rfl rfl _ _ _ _ _

end Go.Proofs.Ytmcmajndcbobpaa
