/-
  THE CONTRACTS of rwq.Take and rwq.Drop.
-/
import Derived.Test.YtmcmajndcbobpaaRwC
namespace Go.Proofs.Ytmcmajndcbobpaa
open Go.RowKit
attribute [local go_sem] Later.cell Later.frozen

set_option maxRecDepth 100000 in
set_option maxHeartbeats 4000000 in
theorem rTake_no (m : PM) (h : HD) (w : World) (B b : Nat) (vw : Value) (s : MS) (hm : Mem w B b vw s) (hz : m.size ≤ (s.zs.length : Int)) (hmay : ¬ mayH m h) :
    Calls Try.prog 18 #[m.v, .pointer (some ⟨b, 0, none⟩), h.v] w (HandRet 72 2 h s B b vw w) := by
  have HST := hid (TkAt.start 72 26 2 m h h0 hm)
  have HOLD := hid hm.hold
  have HTH := hid (fun (x : World) (hb : Mem x B b vw s) => (show Calls Try.prog 34 #[m.v, .pointer (some ⟨b, 0, none⟩), h.v] x fun e w' => e = .returned (.bool false) ∧ Below x.heap.size x w' from by have := there_any m h x B b vw s hb hz; rwa [mayHB_no hmay] at this))
  clear hmay hm hz
  obtain ⟨s1, ml, mt, c, d⟩ := m
  obtain ⟨ht, hl, hs, hr, hx⟩ := h
  show Calls _ _ #[.agg #[.int .i64 s1, .int .i64 ml, .int .i64 mt, .int .i64 c, .int .i64 d], _, .agg #[.int .i64 ht, .int .i64 hl, .int .i64 hs, .bool hr, .int .i64 hx]] _ _
  go_enter Try.func18, Try.ntmps18
  go_upto_region 1 with fail
  refine wp_rename _ HST.out ?_
  intro W hk
  have HK := hid hk
  obtain ⟨m0, m1, m2, m3, m4, _⟩ := hk.three.map.facts
  obtain ⟨d0, d1, d2, d3, d4, df⟩ := hk.three.box.facts
  obtain ⟨o0, o1, o2, o3, o4, of⟩ := hk.three.out.facts
  clear hk HST
  go_wp2_with ((go_at_call 34; (with_reducible refine (HTH.out _ HK.out.mem).mono ?_); rintro e w2 ⟨rfl, hb2⟩; have HK := hid (HK.out.below hb2); clear hb2; clear m0 m1 m2 m3 m4 d0 d1 d2 d3 d4 df o0 o1 o2 o3 o4 of; obtain ⟨m0, m1, m2, m3, m4, _⟩ := HK.out.three.map.facts; obtain ⟨d0, d1, d2, d3, d4, df⟩ := HK.out.three.box.facts; obtain ⟨o0, o1, o2, o3, o4, of⟩ := HK.out.three.out.facts))
  refine bodyPost_ret (v := (HD.mk ht hl hs hr hx).v) (by simp [results, Try.results18, go_sem, o0, o1, o2, o3, o4, of]) rfl ?_
  exact HK.out.done HOLD.out _ _ rfl rfl rfl _ _ _ _ _

set_option maxRecDepth 100000 in
set_option maxHeartbeats 4000000 in
theorem rTake_0 (m : PM) (h : HD) (w : World) (B b : Nat) (vw : Value) (s : MS) (hm : Mem w B b vw s) (hz : m.size ≤ (s.zs.length : Int)) (hmay : mayH m h) (hsv : h.s = 0) :
    Calls Try.prog 18 #[m.v, .pointer (some ⟨b, 0, none⟩), h.v] w (HandRet 72 2 (gotH (mcTake m s h).1) (mcTake m s h).2 B b vw w) := by
  have HST := hid (TkAt.start 72 26 2 m h h0 hm)
  have HOLD := hid hm.hold
  have HTH := hid (fun (x : World) (hb : Mem x B b vw s) => (show Calls Try.prog 34 #[m.v, .pointer (some ⟨b, 0, none⟩), h.v] x fun e w' => e = .returned (.bool true) ∧ Below x.heap.size x w' from by have := there_any m h x B b vw s hb hz; rwa [mayHB_yes hmay] at this))
  have HTK := hid (fun (x : World) (hb : Mem x B b vw s) => mTake_any m h x B b vw s hb hz)
  clear hm hz hmay
  generalize (mcTake m s h).2 = s2 at *
  generalize (mcTake m s h).1 = g at *
  obtain ⟨gt, gl, gs, gr, gx⟩ := g
  obtain ⟨s1, ml, mt, c, d⟩ := m
  obtain ⟨ht, hl, hs, hr, hx⟩ := h
  simp only at hsv
  subst hsv
  show Calls _ _ #[.agg #[.int .i64 s1, .int .i64 ml, .int .i64 mt, .int .i64 c, .int .i64 d], _, .agg #[.int .i64 ht, .int .i64 hl, .int .i64 0, .bool hr, .int .i64 hx]] _ _
  go_enter Try.func18, Try.ntmps18
  go_upto_region 1 with fail
  refine wp_rename _ HST.out ?_
  intro W hk
  have HK := hid hk
  obtain ⟨m0, m1, m2, m3, m4, _⟩ := hk.three.map.facts
  obtain ⟨d0, d1, d2, d3, d4, df⟩ := hk.three.box.facts
  obtain ⟨o0, o1, o2, o3, o4, of⟩ := hk.three.out.facts
  clear hk HST
  go_upto_region 11 with (first | (go_at_call 34; (with_reducible refine (HTH.out _ HK.out.mem).mono ?_); rintro e w2 ⟨rfl, hb2⟩; have HK := hid (HK.out.below hb2); clear hb2; clear m0 m1 m2 m3 m4 d0 d1 d2 d3 d4 df o0 o1 o2 o3 o4 of; obtain ⟨m0, m1, m2, m3, m4, _⟩ := HK.out.three.map.facts; obtain ⟨d0, d1, d2, d3, d4, df⟩ := HK.out.three.box.facts; obtain ⟨o0, o1, o2, o3, o4, of⟩ := HK.out.three.out.facts) | (go_at_call 39; (with_reducible refine (HTK.out _ HK.out.mem).mono ?_); rintro e w3 ⟨rfl, hm3, hw3⟩; have HK := hid (HK.out.next hm3 hw3 HOLD.out); clear hm3 hw3; clear m0 m1 m2 m3 m4 d0 d1 d2 d3 d4 df o0 o1 o2 o3 o4 of; obtain ⟨m0, m1, m2, m3, m4, _⟩ := HK.out.three.map.facts; obtain ⟨d0, d1, d2, d3, d4, df⟩ := HK.out.three.box.facts; obtain ⟨o0, o1, o2, o3, o4, of⟩ := HK.out.three.out.facts))
  refine wp_rename (fun W' => TkAt 72 26 2 w ⟨s1, ml, mt, c, d⟩ ⟨gt, gl, gs, gr, gx⟩ h0 B b vw s2 W') (HK.out.setH HOLD.out ⟨gt, gl, gs, gr, gx⟩) ?_
  clear HK HTK HTH m0 m1 m2 m3 m4 d0 d1 d2 d3 d4 df o0 o1 o2 o3 o4 of
  intro W4 hk
  have HK := hid hk
  obtain ⟨d0, d1, d2, d3, d4, df⟩ := HK.out.three.box.facts
  obtain ⟨o0, o1, o2, o3, o4, of⟩ := HK.out.three.out.facts
  clear hk
  by_cases h9 : gs = 9
  · subst h9
    go_wp2_with fail
    refine bodyPost_ret (v := (HD.mk gt gl 10 gr gx).v) (by simp [results, Try.results18, go_sem, o0, o1, o2, o3, o4, of]) rfl ?_
    exact (HK.out.setS HOLD.out 10).done HOLD.out _ _ rfl rfl rfl _ _ _ _ _
  · go_wp2_with fail
    refine bodyPost_ret (v := (HD.mk gt gl gs gr gx).v) (by simp [results, Try.results18, go_sem, o0, o1, o2, o3, o4, of]) rfl ?_
    exact HK.out.done HOLD.out _ _ (by unfold gotH; rw [if_neg h9]) rfl rfl _ _ _ _ _

set_option maxRecDepth 100000 in
set_option maxHeartbeats 4000000 in
theorem rTake_1 (m : PM) (h : HD) (w : World) (B b : Nat) (vw : Value) (s : MS) (hm : Mem w B b vw s) (hz : m.size ≤ (s.zs.length : Int)) (hmay : mayH m h) (hsv : h.s = 1) :
    Calls Try.prog 18 #[m.v, .pointer (some ⟨b, 0, none⟩), h.v] w (HandRet 72 2 (gotH (mcTake m s h).1) (mcTake m s h).2 B b vw w) := by
  have HST := hid (TkAt.start 72 26 2 m h h0 hm)
  have HOLD := hid hm.hold
  have HTH := hid (fun (x : World) (hb : Mem x B b vw s) => (show Calls Try.prog 34 #[m.v, .pointer (some ⟨b, 0, none⟩), h.v] x fun e w' => e = .returned (.bool true) ∧ Below x.heap.size x w' from by have := there_any m h x B b vw s hb hz; rwa [mayHB_yes hmay] at this))
  have HTK := hid (fun (x : World) (hb : Mem x B b vw s) => mTake_any m h x B b vw s hb hz)
  clear hm hz hmay
  generalize (mcTake m s h).2 = s2 at *
  generalize (mcTake m s h).1 = g at *
  obtain ⟨gt, gl, gs, gr, gx⟩ := g
  obtain ⟨s1, ml, mt, c, d⟩ := m
  obtain ⟨ht, hl, hs, hr, hx⟩ := h
  simp only at hsv
  subst hsv
  show Calls _ _ #[.agg #[.int .i64 s1, .int .i64 ml, .int .i64 mt, .int .i64 c, .int .i64 d], _, .agg #[.int .i64 ht, .int .i64 hl, .int .i64 1, .bool hr, .int .i64 hx]] _ _
  go_enter Try.func18, Try.ntmps18
  go_upto_region 1 with fail
  refine wp_rename _ HST.out ?_
  intro W hk
  have HK := hid hk
  obtain ⟨m0, m1, m2, m3, m4, _⟩ := hk.three.map.facts
  obtain ⟨d0, d1, d2, d3, d4, df⟩ := hk.three.box.facts
  obtain ⟨o0, o1, o2, o3, o4, of⟩ := hk.three.out.facts
  clear hk HST
  go_upto_region 11 with (first | (go_at_call 34; (with_reducible refine (HTH.out _ HK.out.mem).mono ?_); rintro e w2 ⟨rfl, hb2⟩; have HK := hid (HK.out.below hb2); clear hb2; clear m0 m1 m2 m3 m4 d0 d1 d2 d3 d4 df o0 o1 o2 o3 o4 of; obtain ⟨m0, m1, m2, m3, m4, _⟩ := HK.out.three.map.facts; obtain ⟨d0, d1, d2, d3, d4, df⟩ := HK.out.three.box.facts; obtain ⟨o0, o1, o2, o3, o4, of⟩ := HK.out.three.out.facts) | (go_at_call 39; (with_reducible refine (HTK.out _ HK.out.mem).mono ?_); rintro e w3 ⟨rfl, hm3, hw3⟩; have HK := hid (HK.out.next hm3 hw3 HOLD.out); clear hm3 hw3; clear m0 m1 m2 m3 m4 d0 d1 d2 d3 d4 df o0 o1 o2 o3 o4 of; obtain ⟨m0, m1, m2, m3, m4, _⟩ := HK.out.three.map.facts; obtain ⟨d0, d1, d2, d3, d4, df⟩ := HK.out.three.box.facts; obtain ⟨o0, o1, o2, o3, o4, of⟩ := HK.out.three.out.facts))
  refine wp_rename (fun W' => TkAt 72 26 2 w ⟨s1, ml, mt, c, d⟩ ⟨gt, gl, gs, gr, gx⟩ h0 B b vw s2 W') (HK.out.setH HOLD.out ⟨gt, gl, gs, gr, gx⟩) ?_
  clear HK HTK HTH m0 m1 m2 m3 m4 d0 d1 d2 d3 d4 df o0 o1 o2 o3 o4 of
  intro W4 hk
  have HK := hid hk
  obtain ⟨d0, d1, d2, d3, d4, df⟩ := HK.out.three.box.facts
  obtain ⟨o0, o1, o2, o3, o4, of⟩ := HK.out.three.out.facts
  clear hk
  by_cases h9 : gs = 9
  · subst h9
    go_wp2_with fail
    refine bodyPost_ret (v := (HD.mk gt gl 10 gr gx).v) (by simp [results, Try.results18, go_sem, o0, o1, o2, o3, o4, of]) rfl ?_
    exact (HK.out.setS HOLD.out 10).done HOLD.out _ _ rfl rfl rfl _ _ _ _ _
  · go_wp2_with fail
    refine bodyPost_ret (v := (HD.mk gt gl gs gr gx).v) (by simp [results, Try.results18, go_sem, o0, o1, o2, o3, o4, of]) rfl ?_
    exact HK.out.done HOLD.out _ _ (by unfold gotH; rw [if_neg h9]) rfl rfl _ _ _ _ _

set_option maxRecDepth 100000 in
set_option maxHeartbeats 4000000 in
theorem rTake_2 (m : PM) (h : HD) (w : World) (B b : Nat) (vw : Value) (s : MS) (hm : Mem w B b vw s) (hz : m.size ≤ (s.zs.length : Int)) (hmay : mayH m h) (hsv : h.s = 2) :
    Calls Try.prog 18 #[m.v, .pointer (some ⟨b, 0, none⟩), h.v] w (HandRet 72 2 (gotH (mcTake m s h).1) (mcTake m s h).2 B b vw w) := by
  have HST := hid (TkAt.start 72 26 2 m h h0 hm)
  have HOLD := hid hm.hold
  have HTH := hid (fun (x : World) (hb : Mem x B b vw s) => (show Calls Try.prog 34 #[m.v, .pointer (some ⟨b, 0, none⟩), h.v] x fun e w' => e = .returned (.bool true) ∧ Below x.heap.size x w' from by have := there_any m h x B b vw s hb hz; rwa [mayHB_yes hmay] at this))
  have HTK := hid (fun (x : World) (hb : Mem x B b vw s) => mTake_any m h x B b vw s hb hz)
  clear hm hz hmay
  generalize (mcTake m s h).2 = s2 at *
  generalize (mcTake m s h).1 = g at *
  obtain ⟨gt, gl, gs, gr, gx⟩ := g
  obtain ⟨s1, ml, mt, c, d⟩ := m
  obtain ⟨ht, hl, hs, hr, hx⟩ := h
  simp only at hsv
  subst hsv
  show Calls _ _ #[.agg #[.int .i64 s1, .int .i64 ml, .int .i64 mt, .int .i64 c, .int .i64 d], _, .agg #[.int .i64 ht, .int .i64 hl, .int .i64 2, .bool hr, .int .i64 hx]] _ _
  go_enter Try.func18, Try.ntmps18
  go_upto_region 1 with fail
  refine wp_rename _ HST.out ?_
  intro W hk
  have HK := hid hk
  obtain ⟨m0, m1, m2, m3, m4, _⟩ := hk.three.map.facts
  obtain ⟨d0, d1, d2, d3, d4, df⟩ := hk.three.box.facts
  obtain ⟨o0, o1, o2, o3, o4, of⟩ := hk.three.out.facts
  clear hk HST
  go_upto_region 11 with (first | (go_at_call 34; (with_reducible refine (HTH.out _ HK.out.mem).mono ?_); rintro e w2 ⟨rfl, hb2⟩; have HK := hid (HK.out.below hb2); clear hb2; clear m0 m1 m2 m3 m4 d0 d1 d2 d3 d4 df o0 o1 o2 o3 o4 of; obtain ⟨m0, m1, m2, m3, m4, _⟩ := HK.out.three.map.facts; obtain ⟨d0, d1, d2, d3, d4, df⟩ := HK.out.three.box.facts; obtain ⟨o0, o1, o2, o3, o4, of⟩ := HK.out.three.out.facts) | (go_at_call 39; (with_reducible refine (HTK.out _ HK.out.mem).mono ?_); rintro e w3 ⟨rfl, hm3, hw3⟩; have HK := hid (HK.out.next hm3 hw3 HOLD.out); clear hm3 hw3; clear m0 m1 m2 m3 m4 d0 d1 d2 d3 d4 df o0 o1 o2 o3 o4 of; obtain ⟨m0, m1, m2, m3, m4, _⟩ := HK.out.three.map.facts; obtain ⟨d0, d1, d2, d3, d4, df⟩ := HK.out.three.box.facts; obtain ⟨o0, o1, o2, o3, o4, of⟩ := HK.out.three.out.facts))
  refine wp_rename (fun W' => TkAt 72 26 2 w ⟨s1, ml, mt, c, d⟩ ⟨gt, gl, gs, gr, gx⟩ h0 B b vw s2 W') (HK.out.setH HOLD.out ⟨gt, gl, gs, gr, gx⟩) ?_
  clear HK HTK HTH m0 m1 m2 m3 m4 d0 d1 d2 d3 d4 df o0 o1 o2 o3 o4 of
  intro W4 hk
  have HK := hid hk
  obtain ⟨d0, d1, d2, d3, d4, df⟩ := HK.out.three.box.facts
  obtain ⟨o0, o1, o2, o3, o4, of⟩ := HK.out.three.out.facts
  clear hk
  by_cases h9 : gs = 9
  · subst h9
    go_wp2_with fail
    refine bodyPost_ret (v := (HD.mk gt gl 10 gr gx).v) (by simp [results, Try.results18, go_sem, o0, o1, o2, o3, o4, of]) rfl ?_
    exact (HK.out.setS HOLD.out 10).done HOLD.out _ _ rfl rfl rfl _ _ _ _ _
  · go_wp2_with fail
    refine bodyPost_ret (v := (HD.mk gt gl gs gr gx).v) (by simp [results, Try.results18, go_sem, o0, o1, o2, o3, o4, of]) rfl ?_
    exact HK.out.done HOLD.out _ _ (by unfold gotH; rw [if_neg h9]) rfl rfl _ _ _ _ _

set_option maxRecDepth 100000 in
set_option maxHeartbeats 4000000 in
theorem rTake_3 (m : PM) (h : HD) (w : World) (B b : Nat) (vw : Value) (s : MS) (hm : Mem w B b vw s) (hz : m.size ≤ (s.zs.length : Int)) (hmay : mayH m h) (hsv : h.s = 3) :
    Calls Try.prog 18 #[m.v, .pointer (some ⟨b, 0, none⟩), h.v] w (HandRet 72 2 (gotH (mcTake m s h).1) (mcTake m s h).2 B b vw w) := by
  have HST := hid (TkAt.start 72 26 2 m h h0 hm)
  have HOLD := hid hm.hold
  have HTH := hid (fun (x : World) (hb : Mem x B b vw s) => (show Calls Try.prog 34 #[m.v, .pointer (some ⟨b, 0, none⟩), h.v] x fun e w' => e = .returned (.bool true) ∧ Below x.heap.size x w' from by have := there_any m h x B b vw s hb hz; rwa [mayHB_yes hmay] at this))
  have HTK := hid (fun (x : World) (hb : Mem x B b vw s) => mTake_any m h x B b vw s hb hz)
  clear hm hz hmay
  generalize (mcTake m s h).2 = s2 at *
  generalize (mcTake m s h).1 = g at *
  obtain ⟨gt, gl, gs, gr, gx⟩ := g
  obtain ⟨s1, ml, mt, c, d⟩ := m
  obtain ⟨ht, hl, hs, hr, hx⟩ := h
  simp only at hsv
  subst hsv
  show Calls _ _ #[.agg #[.int .i64 s1, .int .i64 ml, .int .i64 mt, .int .i64 c, .int .i64 d], _, .agg #[.int .i64 ht, .int .i64 hl, .int .i64 3, .bool hr, .int .i64 hx]] _ _
  go_enter Try.func18, Try.ntmps18
  go_upto_region 1 with fail
  refine wp_rename _ HST.out ?_
  intro W hk
  have HK := hid hk
  obtain ⟨m0, m1, m2, m3, m4, _⟩ := hk.three.map.facts
  obtain ⟨d0, d1, d2, d3, d4, df⟩ := hk.three.box.facts
  obtain ⟨o0, o1, o2, o3, o4, of⟩ := hk.three.out.facts
  clear hk HST
  go_upto_region 11 with (first | (go_at_call 34; (with_reducible refine (HTH.out _ HK.out.mem).mono ?_); rintro e w2 ⟨rfl, hb2⟩; have HK := hid (HK.out.below hb2); clear hb2; clear m0 m1 m2 m3 m4 d0 d1 d2 d3 d4 df o0 o1 o2 o3 o4 of; obtain ⟨m0, m1, m2, m3, m4, _⟩ := HK.out.three.map.facts; obtain ⟨d0, d1, d2, d3, d4, df⟩ := HK.out.three.box.facts; obtain ⟨o0, o1, o2, o3, o4, of⟩ := HK.out.three.out.facts) | (go_at_call 39; (with_reducible refine (HTK.out _ HK.out.mem).mono ?_); rintro e w3 ⟨rfl, hm3, hw3⟩; have HK := hid (HK.out.next hm3 hw3 HOLD.out); clear hm3 hw3; clear m0 m1 m2 m3 m4 d0 d1 d2 d3 d4 df o0 o1 o2 o3 o4 of; obtain ⟨m0, m1, m2, m3, m4, _⟩ := HK.out.three.map.facts; obtain ⟨d0, d1, d2, d3, d4, df⟩ := HK.out.three.box.facts; obtain ⟨o0, o1, o2, o3, o4, of⟩ := HK.out.three.out.facts))
  refine wp_rename (fun W' => TkAt 72 26 2 w ⟨s1, ml, mt, c, d⟩ ⟨gt, gl, gs, gr, gx⟩ h0 B b vw s2 W') (HK.out.setH HOLD.out ⟨gt, gl, gs, gr, gx⟩) ?_
  clear HK HTK HTH m0 m1 m2 m3 m4 d0 d1 d2 d3 d4 df o0 o1 o2 o3 o4 of
  intro W4 hk
  have HK := hid hk
  obtain ⟨d0, d1, d2, d3, d4, df⟩ := HK.out.three.box.facts
  obtain ⟨o0, o1, o2, o3, o4, of⟩ := HK.out.three.out.facts
  clear hk
  by_cases h9 : gs = 9
  · subst h9
    go_wp2_with fail
    refine bodyPost_ret (v := (HD.mk gt gl 10 gr gx).v) (by simp [results, Try.results18, go_sem, o0, o1, o2, o3, o4, of]) rfl ?_
    exact (HK.out.setS HOLD.out 10).done HOLD.out _ _ rfl rfl rfl _ _ _ _ _
  · go_wp2_with fail
    refine bodyPost_ret (v := (HD.mk gt gl gs gr gx).v) (by simp [results, Try.results18, go_sem, o0, o1, o2, o3, o4, of]) rfl ?_
    exact HK.out.done HOLD.out _ _ (by unfold gotH; rw [if_neg h9]) rfl rfl _ _ _ _ _

set_option maxRecDepth 100000 in
set_option maxHeartbeats 4000000 in
theorem rTake_4 (m : PM) (h : HD) (w : World) (B b : Nat) (vw : Value) (s : MS) (hm : Mem w B b vw s) (hz : m.size ≤ (s.zs.length : Int)) (hmay : mayH m h) (hsv : h.s = 4) :
    Calls Try.prog 18 #[m.v, .pointer (some ⟨b, 0, none⟩), h.v] w (HandRet 72 2 (gotH (mcTake m s h).1) (mcTake m s h).2 B b vw w) := by
  have HST := hid (TkAt.start 72 26 2 m h h0 hm)
  have HOLD := hid hm.hold
  have HTH := hid (fun (x : World) (hb : Mem x B b vw s) => (show Calls Try.prog 34 #[m.v, .pointer (some ⟨b, 0, none⟩), h.v] x fun e w' => e = .returned (.bool true) ∧ Below x.heap.size x w' from by have := there_any m h x B b vw s hb hz; rwa [mayHB_yes hmay] at this))
  have HTK := hid (fun (x : World) (hb : Mem x B b vw s) => mTake_any m h x B b vw s hb hz)
  clear hm hz hmay
  generalize (mcTake m s h).2 = s2 at *
  generalize (mcTake m s h).1 = g at *
  obtain ⟨gt, gl, gs, gr, gx⟩ := g
  obtain ⟨s1, ml, mt, c, d⟩ := m
  obtain ⟨ht, hl, hs, hr, hx⟩ := h
  simp only at hsv
  subst hsv
  show Calls _ _ #[.agg #[.int .i64 s1, .int .i64 ml, .int .i64 mt, .int .i64 c, .int .i64 d], _, .agg #[.int .i64 ht, .int .i64 hl, .int .i64 4, .bool hr, .int .i64 hx]] _ _
  go_enter Try.func18, Try.ntmps18
  go_upto_region 1 with fail
  refine wp_rename _ HST.out ?_
  intro W hk
  have HK := hid hk
  obtain ⟨m0, m1, m2, m3, m4, _⟩ := hk.three.map.facts
  obtain ⟨d0, d1, d2, d3, d4, df⟩ := hk.three.box.facts
  obtain ⟨o0, o1, o2, o3, o4, of⟩ := hk.three.out.facts
  clear hk HST
  go_upto_region 11 with (first | (go_at_call 34; (with_reducible refine (HTH.out _ HK.out.mem).mono ?_); rintro e w2 ⟨rfl, hb2⟩; have HK := hid (HK.out.below hb2); clear hb2; clear m0 m1 m2 m3 m4 d0 d1 d2 d3 d4 df o0 o1 o2 o3 o4 of; obtain ⟨m0, m1, m2, m3, m4, _⟩ := HK.out.three.map.facts; obtain ⟨d0, d1, d2, d3, d4, df⟩ := HK.out.three.box.facts; obtain ⟨o0, o1, o2, o3, o4, of⟩ := HK.out.three.out.facts) | (go_at_call 39; (with_reducible refine (HTK.out _ HK.out.mem).mono ?_); rintro e w3 ⟨rfl, hm3, hw3⟩; have HK := hid (HK.out.next hm3 hw3 HOLD.out); clear hm3 hw3; clear m0 m1 m2 m3 m4 d0 d1 d2 d3 d4 df o0 o1 o2 o3 o4 of; obtain ⟨m0, m1, m2, m3, m4, _⟩ := HK.out.three.map.facts; obtain ⟨d0, d1, d2, d3, d4, df⟩ := HK.out.three.box.facts; obtain ⟨o0, o1, o2, o3, o4, of⟩ := HK.out.three.out.facts))
  refine wp_rename (fun W' => TkAt 72 26 2 w ⟨s1, ml, mt, c, d⟩ ⟨gt, gl, gs, gr, gx⟩ h0 B b vw s2 W') (HK.out.setH HOLD.out ⟨gt, gl, gs, gr, gx⟩) ?_
  clear HK HTK HTH m0 m1 m2 m3 m4 d0 d1 d2 d3 d4 df o0 o1 o2 o3 o4 of
  intro W4 hk
  have HK := hid hk
  obtain ⟨d0, d1, d2, d3, d4, df⟩ := HK.out.three.box.facts
  obtain ⟨o0, o1, o2, o3, o4, of⟩ := HK.out.three.out.facts
  clear hk
  by_cases h9 : gs = 9
  · subst h9
    go_wp2_with fail
    refine bodyPost_ret (v := (HD.mk gt gl 10 gr gx).v) (by simp [results, Try.results18, go_sem, o0, o1, o2, o3, o4, of]) rfl ?_
    exact (HK.out.setS HOLD.out 10).done HOLD.out _ _ rfl rfl rfl _ _ _ _ _
  · go_wp2_with fail
    refine bodyPost_ret (v := (HD.mk gt gl gs gr gx).v) (by simp [results, Try.results18, go_sem, o0, o1, o2, o3, o4, of]) rfl ?_
    exact HK.out.done HOLD.out _ _ (by unfold gotH; rw [if_neg h9]) rfl rfl _ _ _ _ _

set_option maxRecDepth 100000 in
set_option maxHeartbeats 4000000 in
theorem rTake_5 (m : PM) (h : HD) (w : World) (B b : Nat) (vw : Value) (s : MS) (hm : Mem w B b vw s) (hz : m.size ≤ (s.zs.length : Int)) (hmay : mayH m h) (hsv : h.s = 5) :
    Calls Try.prog 18 #[m.v, .pointer (some ⟨b, 0, none⟩), h.v] w (HandRet 72 2 (gotH (mcTake m s h).1) (mcTake m s h).2 B b vw w) := by
  have HST := hid (TkAt.start 72 26 2 m h h0 hm)
  have HOLD := hid hm.hold
  have HTH := hid (fun (x : World) (hb : Mem x B b vw s) => (show Calls Try.prog 34 #[m.v, .pointer (some ⟨b, 0, none⟩), h.v] x fun e w' => e = .returned (.bool true) ∧ Below x.heap.size x w' from by have := there_any m h x B b vw s hb hz; rwa [mayHB_yes hmay] at this))
  have HTK := hid (fun (x : World) (hb : Mem x B b vw s) => mTake_any m h x B b vw s hb hz)
  clear hm hz hmay
  generalize (mcTake m s h).2 = s2 at *
  generalize (mcTake m s h).1 = g at *
  obtain ⟨gt, gl, gs, gr, gx⟩ := g
  obtain ⟨s1, ml, mt, c, d⟩ := m
  obtain ⟨ht, hl, hs, hr, hx⟩ := h
  simp only at hsv
  subst hsv
  show Calls _ _ #[.agg #[.int .i64 s1, .int .i64 ml, .int .i64 mt, .int .i64 c, .int .i64 d], _, .agg #[.int .i64 ht, .int .i64 hl, .int .i64 5, .bool hr, .int .i64 hx]] _ _
  go_enter Try.func18, Try.ntmps18
  go_upto_region 1 with fail
  refine wp_rename _ HST.out ?_
  intro W hk
  have HK := hid hk
  obtain ⟨m0, m1, m2, m3, m4, _⟩ := hk.three.map.facts
  obtain ⟨d0, d1, d2, d3, d4, df⟩ := hk.three.box.facts
  obtain ⟨o0, o1, o2, o3, o4, of⟩ := hk.three.out.facts
  clear hk HST
  go_upto_region 11 with (first | (go_at_call 34; (with_reducible refine (HTH.out _ HK.out.mem).mono ?_); rintro e w2 ⟨rfl, hb2⟩; have HK := hid (HK.out.below hb2); clear hb2; clear m0 m1 m2 m3 m4 d0 d1 d2 d3 d4 df o0 o1 o2 o3 o4 of; obtain ⟨m0, m1, m2, m3, m4, _⟩ := HK.out.three.map.facts; obtain ⟨d0, d1, d2, d3, d4, df⟩ := HK.out.three.box.facts; obtain ⟨o0, o1, o2, o3, o4, of⟩ := HK.out.three.out.facts) | (go_at_call 39; (with_reducible refine (HTK.out _ HK.out.mem).mono ?_); rintro e w3 ⟨rfl, hm3, hw3⟩; have HK := hid (HK.out.next hm3 hw3 HOLD.out); clear hm3 hw3; clear m0 m1 m2 m3 m4 d0 d1 d2 d3 d4 df o0 o1 o2 o3 o4 of; obtain ⟨m0, m1, m2, m3, m4, _⟩ := HK.out.three.map.facts; obtain ⟨d0, d1, d2, d3, d4, df⟩ := HK.out.three.box.facts; obtain ⟨o0, o1, o2, o3, o4, of⟩ := HK.out.three.out.facts))
  refine wp_rename (fun W' => TkAt 72 26 2 w ⟨s1, ml, mt, c, d⟩ ⟨gt, gl, gs, gr, gx⟩ h0 B b vw s2 W') (HK.out.setH HOLD.out ⟨gt, gl, gs, gr, gx⟩) ?_
  clear HK HTK HTH m0 m1 m2 m3 m4 d0 d1 d2 d3 d4 df o0 o1 o2 o3 o4 of
  intro W4 hk
  have HK := hid hk
  obtain ⟨d0, d1, d2, d3, d4, df⟩ := HK.out.three.box.facts
  obtain ⟨o0, o1, o2, o3, o4, of⟩ := HK.out.three.out.facts
  clear hk
  by_cases h9 : gs = 9
  · subst h9
    go_wp2_with fail
    refine bodyPost_ret (v := (HD.mk gt gl 10 gr gx).v) (by simp [results, Try.results18, go_sem, o0, o1, o2, o3, o4, of]) rfl ?_
    exact (HK.out.setS HOLD.out 10).done HOLD.out _ _ rfl rfl rfl _ _ _ _ _
  · go_wp2_with fail
    refine bodyPost_ret (v := (HD.mk gt gl gs gr gx).v) (by simp [results, Try.results18, go_sem, o0, o1, o2, o3, o4, of]) rfl ?_
    exact HK.out.done HOLD.out _ _ (by unfold gotH; rw [if_neg h9]) rfl rfl _ _ _ _ _

set_option maxRecDepth 100000 in
set_option maxHeartbeats 4000000 in
theorem rTake_10r (m : PM) (h : HD) (w : World) (B b : Nat) (vw : Value) (s : MS) (hm : Mem w B b vw s) (hz : m.size ≤ (s.zs.length : Int)) (hmay : mayH m h) (hsv : h.s = 10) (hrd : h.rd = true) :
    Calls Try.prog 18 #[m.v, .pointer (some ⟨b, 0, none⟩), h.v] w (HandRet 72 2 ⟨h.t, h.l, 11, h.rd, h.x⟩ (s.added (m.at_ 3 h.l 3) 1) B b vw w) := by
  have HST := hid (TkAt.start 72 26 2 m h h0 hm)
  have HOLD := hid hm.hold
  have HTH := hid (fun (x : World) (hb : Mem x B b vw s) => (show Calls Try.prog 34 #[m.v, .pointer (some ⟨b, 0, none⟩), h.v] x fun e w' => e = .returned (.bool true) ∧ Below x.heap.size x w' from by have := there_any m h x B b vw s hb hz; rwa [mayHB_yes hmay] at this))
  have HCT := hid (fun (x : World) (hb : Mem x B b vw s) => count_10 m h x B b vw s hb hz hsv)
  clear hm hz hmay
  generalize s.added (m.at_ 3 h.l 3) 1 = s2 at *
  obtain ⟨s1, ml, mt, c, d⟩ := m
  obtain ⟨ht, hl, hs, hr, hx⟩ := h
  simp only at hsv
  subst hsv
  simp only at hrd
  subst hrd
  show Calls _ _ #[.agg #[.int .i64 s1, .int .i64 ml, .int .i64 mt, .int .i64 c, .int .i64 d], _, .agg #[.int .i64 ht, .int .i64 hl, .int .i64 10, .bool true, .int .i64 hx]] _ _
  go_enter Try.func18, Try.ntmps18
  go_upto_region 1 with fail
  refine wp_rename _ HST.out ?_
  intro W hk
  have HK := hid hk
  obtain ⟨m0, m1, m2, m3, m4, _⟩ := hk.three.map.facts
  obtain ⟨d0, d1, d2, d3, d4, df⟩ := hk.three.box.facts
  obtain ⟨o0, o1, o2, o3, o4, of⟩ := hk.three.out.facts
  clear hk HST
  go_wp2_with (first | (go_at_call 34; (with_reducible refine (HTH.out _ HK.out.mem).mono ?_); rintro e w2 ⟨rfl, hb2⟩; have HK := hid (HK.out.below hb2); clear hb2; clear m0 m1 m2 m3 m4 d0 d1 d2 d3 d4 df o0 o1 o2 o3 o4 of; obtain ⟨m0, m1, m2, m3, m4, _⟩ := HK.out.three.map.facts; obtain ⟨d0, d1, d2, d3, d4, df⟩ := HK.out.three.box.facts; obtain ⟨o0, o1, o2, o3, o4, of⟩ := HK.out.three.out.facts) | (go_at_call 35; (with_reducible refine (HCT.out _ HK.out.mem).mono ?_); rintro e w3 ⟨rfl, hm3, hw3⟩; have HK := hid (HK.out.next hm3 hw3 HOLD.out); clear hm3 hw3; clear m0 m1 m2 m3 m4 d0 d1 d2 d3 d4 df o0 o1 o2 o3 o4 of; obtain ⟨m0, m1, m2, m3, m4, _⟩ := HK.out.three.map.facts; obtain ⟨d0, d1, d2, d3, d4, df⟩ := HK.out.three.box.facts; obtain ⟨o0, o1, o2, o3, o4, of⟩ := HK.out.three.out.facts))
  refine bodyPost_ret (v := (HD.mk ht hl 11 true hx).v) (by simp [results, Try.results18, go_sem, o0, o1, o2, o3, o4, of]) rfl ?_
  exact HK.out.out HOLD.out ⟨ht, hl, 11, true, hx⟩ rfl _ _ _ _ _

set_option maxRecDepth 100000 in
set_option maxHeartbeats 4000000 in
theorem rTake_10w (m : PM) (h : HD) (w : World) (B b : Nat) (vw : Value) (s : MS) (hm : Mem w B b vw s) (hz : m.size ≤ (s.zs.length : Int)) (hmay : mayH m h) (hsv : h.s = 10) (hrd : h.rd = false) (hy : s.vAt (m.at_ 3 h.l 3) = 0) :
    Calls Try.prog 18 #[m.v, .pointer (some ⟨b, 0, none⟩), h.v] w (HandRet 72 2 ⟨h.t, h.l, 9, h.rd, h.x⟩ (s.loaded (m.at_ 3 h.l 3)) B b vw w) := by
  have HST := hid (TkAt.start 72 26 2 m h h0 hm)
  have HOLD := hid hm.hold
  have HTH := hid (fun (x : World) (hb : Mem x B b vw s) => (show Calls Try.prog 34 #[m.v, .pointer (some ⟨b, 0, none⟩), h.v] x fun e w' => e = .returned (.bool true) ∧ Below x.heap.size x w' from by have := there_any m h x B b vw s hb hz; rwa [mayHB_yes hmay] at this))
  have HRD := hid (fun (x : World) => readers_any m h.l x)
  have HMO := hid (fun (x : World) (hb : Mem x B b vw s) => Load_at (m.at_ 3 h.l 3) x B b vw s hb)
  simp only [hy] at HMO
  clear hm hz hmay hy
  generalize m.at_ 3 h.l 3 = p at *
  generalize s.eAt p = ee at *
  obtain ⟨s1, ml, mt, c, d⟩ := m
  obtain ⟨ht, hl, hs, hr, hx⟩ := h
  simp only at hsv
  subst hsv
  simp only at hrd
  subst hrd
  show Calls _ _ #[.agg #[.int .i64 s1, .int .i64 ml, .int .i64 mt, .int .i64 c, .int .i64 d], _, .agg #[.int .i64 ht, .int .i64 hl, .int .i64 10, .bool false, .int .i64 hx]] _ _
  go_enter Try.func18, Try.ntmps18
  go_upto_region 1 with fail
  refine wp_rename _ HST.out ?_
  intro W hk
  have HK := hid hk
  obtain ⟨m0, m1, m2, m3, m4, _⟩ := hk.three.map.facts
  obtain ⟨d0, d1, d2, d3, d4, df⟩ := hk.three.box.facts
  obtain ⟨o0, o1, o2, o3, o4, of⟩ := hk.three.out.facts
  clear hk HST
  go_wp2_with (first | (go_at_call 34; (with_reducible refine (HTH.out _ HK.out.mem).mono ?_); rintro e w2 ⟨rfl, hb2⟩; have HK := hid (HK.out.below hb2); clear hb2; clear m0 m1 m2 m3 m4 d0 d1 d2 d3 d4 df o0 o1 o2 o3 o4 of; obtain ⟨m0, m1, m2, m3, m4, _⟩ := HK.out.three.map.facts; obtain ⟨d0, d1, d2, d3, d4, df⟩ := HK.out.three.box.facts; obtain ⟨o0, o1, o2, o3, o4, of⟩ := HK.out.three.out.facts) | (go_at_call 41; (with_reducible refine (HRD.out _).mono ?_); rintro e w1 ⟨rfl, hb1⟩; have HK := hid (HK.out.below hb1); clear hb1; clear m0 m1 m2 m3 m4 d0 d1 d2 d3 d4 df o0 o1 o2 o3 o4 of; obtain ⟨m0, m1, m2, m3, m4, _⟩ := HK.out.three.map.facts; obtain ⟨d0, d1, d2, d3, d4, df⟩ := HK.out.three.box.facts; obtain ⟨o0, o1, o2, o3, o4, of⟩ := HK.out.three.out.facts) | (go_at_call 40; (with_reducible refine (HMO.out _ HK.out.mem).mono ?_); rintro e w4 ⟨rfl, hm4, hw4⟩; have HK := hid (HK.out.next hm4 hw4 HOLD.out); clear hm4 hw4; clear m0 m1 m2 m3 m4 d0 d1 d2 d3 d4 df o0 o1 o2 o3 o4 of; obtain ⟨m0, m1, m2, m3, m4, _⟩ := HK.out.three.map.facts; obtain ⟨d0, d1, d2, d3, d4, df⟩ := HK.out.three.box.facts; obtain ⟨o0, o1, o2, o3, o4, of⟩ := HK.out.three.out.facts))
  refine bodyPost_ret (v := (HD.mk ht hl 9 false hx).v) (by simp [results, Try.results18, go_sem, o0, o1, o2, o3, o4, of]) rfl ?_
  exact (HK.out.setS HOLD.out 9).done HOLD.out _ _ rfl rfl rfl _ _ _ _ _

set_option maxRecDepth 100000 in
set_option maxHeartbeats 4000000 in
theorem rTake_10wn (m : PM) (h : HD) (w : World) (B b : Nat) (vw : Value) (s : MS) (hm : Mem w B b vw s) (hz : m.size ≤ (s.zs.length : Int)) (hmay : mayH m h) (hsv : h.s = 10) (hrd : h.rd = false) (hy : ¬ s.vAt (m.at_ 3 h.l 3) = 0) :
    Calls Try.prog 18 #[m.v, .pointer (some ⟨b, 0, none⟩), h.v] w (HandRet 72 2 h (s.loaded (m.at_ 3 h.l 3)) B b vw w) := by
  have HST := hid (TkAt.start 72 26 2 m h h0 hm)
  have HOLD := hid hm.hold
  have HTH := hid (fun (x : World) (hb : Mem x B b vw s) => (show Calls Try.prog 34 #[m.v, .pointer (some ⟨b, 0, none⟩), h.v] x fun e w' => e = .returned (.bool true) ∧ Below x.heap.size x w' from by have := there_any m h x B b vw s hb hz; rwa [mayHB_yes hmay] at this))
  have HRD := hid (fun (x : World) => readers_any m h.l x)
  have HMO := hid (fun (x : World) (hb : Mem x B b vw s) => Load_at (m.at_ 3 h.l 3) x B b vw s hb)
  clear hm hz hmay
  generalize m.at_ 3 h.l 3 = p at *
  generalize s.eAt p = ee at *
  generalize s.vAt p = y at *
  obtain ⟨s1, ml, mt, c, d⟩ := m
  obtain ⟨ht, hl, hs, hr, hx⟩ := h
  simp only at hsv
  subst hsv
  simp only at hrd
  subst hrd
  show Calls _ _ #[.agg #[.int .i64 s1, .int .i64 ml, .int .i64 mt, .int .i64 c, .int .i64 d], _, .agg #[.int .i64 ht, .int .i64 hl, .int .i64 10, .bool false, .int .i64 hx]] _ _
  go_enter Try.func18, Try.ntmps18
  go_upto_region 1 with fail
  refine wp_rename _ HST.out ?_
  intro W hk
  have HK := hid hk
  obtain ⟨m0, m1, m2, m3, m4, _⟩ := hk.three.map.facts
  obtain ⟨d0, d1, d2, d3, d4, df⟩ := hk.three.box.facts
  obtain ⟨o0, o1, o2, o3, o4, of⟩ := hk.three.out.facts
  clear hk HST
  go_wp2_with (first | (go_at_call 34; (with_reducible refine (HTH.out _ HK.out.mem).mono ?_); rintro e w2 ⟨rfl, hb2⟩; have HK := hid (HK.out.below hb2); clear hb2; clear m0 m1 m2 m3 m4 d0 d1 d2 d3 d4 df o0 o1 o2 o3 o4 of; obtain ⟨m0, m1, m2, m3, m4, _⟩ := HK.out.three.map.facts; obtain ⟨d0, d1, d2, d3, d4, df⟩ := HK.out.three.box.facts; obtain ⟨o0, o1, o2, o3, o4, of⟩ := HK.out.three.out.facts) | (go_at_call 41; (with_reducible refine (HRD.out _).mono ?_); rintro e w1 ⟨rfl, hb1⟩; have HK := hid (HK.out.below hb1); clear hb1; clear m0 m1 m2 m3 m4 d0 d1 d2 d3 d4 df o0 o1 o2 o3 o4 of; obtain ⟨m0, m1, m2, m3, m4, _⟩ := HK.out.three.map.facts; obtain ⟨d0, d1, d2, d3, d4, df⟩ := HK.out.three.box.facts; obtain ⟨o0, o1, o2, o3, o4, of⟩ := HK.out.three.out.facts) | (go_at_call 40; (with_reducible refine (HMO.out _ HK.out.mem).mono ?_); rintro e w4 ⟨rfl, hm4, hw4⟩; have HK := hid (HK.out.next hm4 hw4 HOLD.out); clear hm4 hw4; clear m0 m1 m2 m3 m4 d0 d1 d2 d3 d4 df o0 o1 o2 o3 o4 of; obtain ⟨m0, m1, m2, m3, m4, _⟩ := HK.out.three.map.facts; obtain ⟨d0, d1, d2, d3, d4, df⟩ := HK.out.three.box.facts; obtain ⟨o0, o1, o2, o3, o4, of⟩ := HK.out.three.out.facts))
  refine bodyPost_ret (v := (HD.mk ht hl 10 false hx).v) (by simp [results, Try.results18, go_sem, o0, o1, o2, o3, o4, of]) rfl ?_
  exact HK.out.done HOLD.out _ _ rfl rfl rfl _ _ _ _ _

set_option maxRecDepth 100000 in
set_option maxHeartbeats 4000000 in
theorem rTake_11r (m : PM) (h : HD) (w : World) (B b : Nat) (vw : Value) (s : MS) (hm : Mem w B b vw s) (hz : m.size ≤ (s.zs.length : Int)) (hmay : mayH m h) (hsv : h.s = 11) (hrd : h.rd = true) :
    Calls Try.prog 18 #[m.v, .pointer (some ⟨b, 0, none⟩), h.v] w (HandRet 72 2 (rwLeave m s h).1 (rwLeave m s h).2 B b vw w) := by
  have HST := hid (TkAt.start 72 26 2 m h h0 hm)
  have HOLD := hid hm.hold
  have HTH := hid (fun (x : World) (hb : Mem x B b vw s) => (show Calls Try.prog 34 #[m.v, .pointer (some ⟨b, 0, none⟩), h.v] x fun e w' => e = .returned (.bool true) ∧ Below x.heap.size x w' from by have := there_any m h x B b vw s hb hz; rwa [mayHB_yes hmay] at this))
  have HLV := hid (fun (x : World) (hb : Mem x B b vw s) => leave_11 m h x B b vw s hb hz hsv)
  clear hm hz hmay
  generalize (rwLeave m s h).2 = s2 at *
  generalize (rwLeave m s h).1 = g at *
  obtain ⟨gt, gl, gs, gr, gx⟩ := g
  obtain ⟨s1, ml, mt, c, d⟩ := m
  obtain ⟨ht, hl, hs, hr, hx⟩ := h
  simp only at hsv
  subst hsv
  simp only at hrd
  subst hrd
  show Calls _ _ #[.agg #[.int .i64 s1, .int .i64 ml, .int .i64 mt, .int .i64 c, .int .i64 d], _, .agg #[.int .i64 ht, .int .i64 hl, .int .i64 11, .bool true, .int .i64 hx]] _ _
  go_enter Try.func18, Try.ntmps18
  go_upto_region 1 with fail
  refine wp_rename _ HST.out ?_
  intro W hk
  have HK := hid hk
  obtain ⟨m0, m1, m2, m3, m4, _⟩ := hk.three.map.facts
  obtain ⟨d0, d1, d2, d3, d4, df⟩ := hk.three.box.facts
  obtain ⟨o0, o1, o2, o3, o4, of⟩ := hk.three.out.facts
  clear hk HST
  go_wp2_with (first | (go_at_call 34; (with_reducible refine (HTH.out _ HK.out.mem).mono ?_); rintro e w2 ⟨rfl, hb2⟩; have HK := hid (HK.out.below hb2); clear hb2; clear m0 m1 m2 m3 m4 d0 d1 d2 d3 d4 df o0 o1 o2 o3 o4 of; obtain ⟨m0, m1, m2, m3, m4, _⟩ := HK.out.three.map.facts; obtain ⟨d0, d1, d2, d3, d4, df⟩ := HK.out.three.box.facts; obtain ⟨o0, o1, o2, o3, o4, of⟩ := HK.out.three.out.facts) | (go_at_call 42; (with_reducible refine (HLV.out _ HK.out.mem).mono ?_); rintro e w3 ⟨rfl, hm3, hw3⟩; have HK := hid (HK.out.next hm3 hw3 HOLD.out); clear hm3 hw3; clear m0 m1 m2 m3 m4 d0 d1 d2 d3 d4 df o0 o1 o2 o3 o4 of; obtain ⟨m0, m1, m2, m3, m4, _⟩ := HK.out.three.map.facts; obtain ⟨d0, d1, d2, d3, d4, df⟩ := HK.out.three.box.facts; obtain ⟨o0, o1, o2, o3, o4, of⟩ := HK.out.three.out.facts))
  refine bodyPost_ret (v := (HD.mk gt gl gs gr gx).v) (by simp [results, Try.results18, go_sem, o0, o1, o2, o3, o4, of]) rfl ?_
  exact HK.out.out HOLD.out ⟨gt, gl, gs, gr, gx⟩ rfl _ _ _ _ _

set_option maxRecDepth 100000 in
set_option maxHeartbeats 4000000 in
theorem rTake_11w (m : PM) (h : HD) (w : World) (B b : Nat) (vw : Value) (s : MS) (hm : Mem w B b vw s) (hz : m.size ≤ (s.zs.length : Int)) (hmay : mayH m h) (hsv : h.s = 11) (hrd : h.rd = false) :
    Calls Try.prog 18 #[m.v, .pointer (some ⟨b, 0, none⟩), h.v] w (HandRet 72 2 h s B b vw w) := by
  have HST := hid (TkAt.start 72 26 2 m h h0 hm)
  have HOLD := hid hm.hold
  have HTH := hid (fun (x : World) (hb : Mem x B b vw s) => (show Calls Try.prog 34 #[m.v, .pointer (some ⟨b, 0, none⟩), h.v] x fun e w' => e = .returned (.bool true) ∧ Below x.heap.size x w' from by have := there_any m h x B b vw s hb hz; rwa [mayHB_yes hmay] at this))
  clear hm hz hmay
  obtain ⟨s1, ml, mt, c, d⟩ := m
  obtain ⟨ht, hl, hs, hr, hx⟩ := h
  simp only at hsv
  subst hsv
  simp only at hrd
  subst hrd
  show Calls _ _ #[.agg #[.int .i64 s1, .int .i64 ml, .int .i64 mt, .int .i64 c, .int .i64 d], _, .agg #[.int .i64 ht, .int .i64 hl, .int .i64 11, .bool false, .int .i64 hx]] _ _
  go_enter Try.func18, Try.ntmps18
  go_upto_region 1 with fail
  refine wp_rename _ HST.out ?_
  intro W hk
  have HK := hid hk
  obtain ⟨m0, m1, m2, m3, m4, _⟩ := hk.three.map.facts
  obtain ⟨d0, d1, d2, d3, d4, df⟩ := hk.three.box.facts
  obtain ⟨o0, o1, o2, o3, o4, of⟩ := hk.three.out.facts
  clear hk HST
  go_wp2_with ((go_at_call 34; (with_reducible refine (HTH.out _ HK.out.mem).mono ?_); rintro e w2 ⟨rfl, hb2⟩; have HK := hid (HK.out.below hb2); clear hb2; clear m0 m1 m2 m3 m4 d0 d1 d2 d3 d4 df o0 o1 o2 o3 o4 of; obtain ⟨m0, m1, m2, m3, m4, _⟩ := HK.out.three.map.facts; obtain ⟨d0, d1, d2, d3, d4, df⟩ := HK.out.three.box.facts; obtain ⟨o0, o1, o2, o3, o4, of⟩ := HK.out.three.out.facts))
  refine bodyPost_ret (v := (HD.mk ht hl 11 false hx).v) (by simp [results, Try.results18, go_sem, o0, o1, o2, o3, o4, of]) rfl ?_
  exact HK.out.done HOLD.out _ _ rfl rfl rfl _ _ _ _ _

set_option maxRecDepth 100000 in
set_option maxHeartbeats 4000000 in
theorem rTake_12r (m : PM) (h : HD) (w : World) (B b : Nat) (vw : Value) (s : MS) (hm : Mem w B b vw s) (hz : m.size ≤ (s.zs.length : Int)) (hmay : mayH m h) (hsv : h.s = 12) (hrd : h.rd = true) :
    Calls Try.prog 18 #[m.v, .pointer (some ⟨b, 0, none⟩), h.v] w (HandRet 72 2 (rwLeave m s h).1 (rwLeave m s h).2 B b vw w) := by
  have HST := hid (TkAt.start 72 26 2 m h h0 hm)
  have HOLD := hid hm.hold
  have HTH := hid (fun (x : World) (hb : Mem x B b vw s) => (show Calls Try.prog 34 #[m.v, .pointer (some ⟨b, 0, none⟩), h.v] x fun e w' => e = .returned (.bool true) ∧ Below x.heap.size x w' from by have := there_any m h x B b vw s hb hz; rwa [mayHB_yes hmay] at this))
  have HLV := hid (fun (x : World) (hb : Mem x B b vw s) => leave_12 m h x B b vw s hb hz hsv)
  clear hm hz hmay
  generalize (rwLeave m s h).2 = s2 at *
  generalize (rwLeave m s h).1 = g at *
  obtain ⟨gt, gl, gs, gr, gx⟩ := g
  obtain ⟨s1, ml, mt, c, d⟩ := m
  obtain ⟨ht, hl, hs, hr, hx⟩ := h
  simp only at hsv
  subst hsv
  simp only at hrd
  subst hrd
  show Calls _ _ #[.agg #[.int .i64 s1, .int .i64 ml, .int .i64 mt, .int .i64 c, .int .i64 d], _, .agg #[.int .i64 ht, .int .i64 hl, .int .i64 12, .bool true, .int .i64 hx]] _ _
  go_enter Try.func18, Try.ntmps18
  go_upto_region 1 with fail
  refine wp_rename _ HST.out ?_
  intro W hk
  have HK := hid hk
  obtain ⟨m0, m1, m2, m3, m4, _⟩ := hk.three.map.facts
  obtain ⟨d0, d1, d2, d3, d4, df⟩ := hk.three.box.facts
  obtain ⟨o0, o1, o2, o3, o4, of⟩ := hk.three.out.facts
  clear hk HST
  go_wp2_with (first | (go_at_call 34; (with_reducible refine (HTH.out _ HK.out.mem).mono ?_); rintro e w2 ⟨rfl, hb2⟩; have HK := hid (HK.out.below hb2); clear hb2; clear m0 m1 m2 m3 m4 d0 d1 d2 d3 d4 df o0 o1 o2 o3 o4 of; obtain ⟨m0, m1, m2, m3, m4, _⟩ := HK.out.three.map.facts; obtain ⟨d0, d1, d2, d3, d4, df⟩ := HK.out.three.box.facts; obtain ⟨o0, o1, o2, o3, o4, of⟩ := HK.out.three.out.facts) | (go_at_call 42; (with_reducible refine (HLV.out _ HK.out.mem).mono ?_); rintro e w3 ⟨rfl, hm3, hw3⟩; have HK := hid (HK.out.next hm3 hw3 HOLD.out); clear hm3 hw3; clear m0 m1 m2 m3 m4 d0 d1 d2 d3 d4 df o0 o1 o2 o3 o4 of; obtain ⟨m0, m1, m2, m3, m4, _⟩ := HK.out.three.map.facts; obtain ⟨d0, d1, d2, d3, d4, df⟩ := HK.out.three.box.facts; obtain ⟨o0, o1, o2, o3, o4, of⟩ := HK.out.three.out.facts))
  refine bodyPost_ret (v := (HD.mk gt gl gs gr gx).v) (by simp [results, Try.results18, go_sem, o0, o1, o2, o3, o4, of]) rfl ?_
  exact HK.out.out HOLD.out ⟨gt, gl, gs, gr, gx⟩ rfl _ _ _ _ _

set_option maxRecDepth 100000 in
set_option maxHeartbeats 4000000 in
theorem rTake_12w (m : PM) (h : HD) (w : World) (B b : Nat) (vw : Value) (s : MS) (hm : Mem w B b vw s) (hz : m.size ≤ (s.zs.length : Int)) (hmay : mayH m h) (hsv : h.s = 12) (hrd : h.rd = false) :
    Calls Try.prog 18 #[m.v, .pointer (some ⟨b, 0, none⟩), h.v] w (HandRet 72 2 h s B b vw w) := by
  have HST := hid (TkAt.start 72 26 2 m h h0 hm)
  have HOLD := hid hm.hold
  have HTH := hid (fun (x : World) (hb : Mem x B b vw s) => (show Calls Try.prog 34 #[m.v, .pointer (some ⟨b, 0, none⟩), h.v] x fun e w' => e = .returned (.bool true) ∧ Below x.heap.size x w' from by have := there_any m h x B b vw s hb hz; rwa [mayHB_yes hmay] at this))
  clear hm hz hmay
  obtain ⟨s1, ml, mt, c, d⟩ := m
  obtain ⟨ht, hl, hs, hr, hx⟩ := h
  simp only at hsv
  subst hsv
  simp only at hrd
  subst hrd
  show Calls _ _ #[.agg #[.int .i64 s1, .int .i64 ml, .int .i64 mt, .int .i64 c, .int .i64 d], _, .agg #[.int .i64 ht, .int .i64 hl, .int .i64 12, .bool false, .int .i64 hx]] _ _
  go_enter Try.func18, Try.ntmps18
  go_upto_region 1 with fail
  refine wp_rename _ HST.out ?_
  intro W hk
  have HK := hid hk
  obtain ⟨m0, m1, m2, m3, m4, _⟩ := hk.three.map.facts
  obtain ⟨d0, d1, d2, d3, d4, df⟩ := hk.three.box.facts
  obtain ⟨o0, o1, o2, o3, o4, of⟩ := hk.three.out.facts
  clear hk HST
  go_wp2_with ((go_at_call 34; (with_reducible refine (HTH.out _ HK.out.mem).mono ?_); rintro e w2 ⟨rfl, hb2⟩; have HK := hid (HK.out.below hb2); clear hb2; clear m0 m1 m2 m3 m4 d0 d1 d2 d3 d4 df o0 o1 o2 o3 o4 of; obtain ⟨m0, m1, m2, m3, m4, _⟩ := HK.out.three.map.facts; obtain ⟨d0, d1, d2, d3, d4, df⟩ := HK.out.three.box.facts; obtain ⟨o0, o1, o2, o3, o4, of⟩ := HK.out.three.out.facts))
  refine bodyPost_ret (v := (HD.mk ht hl 12 false hx).v) (by simp [results, Try.results18, go_sem, o0, o1, o2, o3, o4, of]) rfl ?_
  exact HK.out.done HOLD.out _ _ rfl rfl rfl _ _ _ _ _

set_option maxRecDepth 100000 in
set_option maxHeartbeats 4000000 in
theorem rTake_13r (m : PM) (h : HD) (w : World) (B b : Nat) (vw : Value) (s : MS) (hm : Mem w B b vw s) (hz : m.size ≤ (s.zs.length : Int)) (hmay : mayH m h) (hsv : h.s = 13) (hrd : h.rd = true) :
    Calls Try.prog 18 #[m.v, .pointer (some ⟨b, 0, none⟩), h.v] w (HandRet 72 2 (rwLeave m s h).1 (rwLeave m s h).2 B b vw w) := by
  have HST := hid (TkAt.start 72 26 2 m h h0 hm)
  have HOLD := hid hm.hold
  have HTH := hid (fun (x : World) (hb : Mem x B b vw s) => (show Calls Try.prog 34 #[m.v, .pointer (some ⟨b, 0, none⟩), h.v] x fun e w' => e = .returned (.bool true) ∧ Below x.heap.size x w' from by have := there_any m h x B b vw s hb hz; rwa [mayHB_yes hmay] at this))
  have HLV := hid (fun (x : World) (hb : Mem x B b vw s) => leave_13 m h x B b vw s hb hz hsv)
  clear hm hz hmay
  generalize (rwLeave m s h).2 = s2 at *
  generalize (rwLeave m s h).1 = g at *
  obtain ⟨gt, gl, gs, gr, gx⟩ := g
  obtain ⟨s1, ml, mt, c, d⟩ := m
  obtain ⟨ht, hl, hs, hr, hx⟩ := h
  simp only at hsv
  subst hsv
  simp only at hrd
  subst hrd
  show Calls _ _ #[.agg #[.int .i64 s1, .int .i64 ml, .int .i64 mt, .int .i64 c, .int .i64 d], _, .agg #[.int .i64 ht, .int .i64 hl, .int .i64 13, .bool true, .int .i64 hx]] _ _
  go_enter Try.func18, Try.ntmps18
  go_upto_region 1 with fail
  refine wp_rename _ HST.out ?_
  intro W hk
  have HK := hid hk
  obtain ⟨m0, m1, m2, m3, m4, _⟩ := hk.three.map.facts
  obtain ⟨d0, d1, d2, d3, d4, df⟩ := hk.three.box.facts
  obtain ⟨o0, o1, o2, o3, o4, of⟩ := hk.three.out.facts
  clear hk HST
  go_wp2_with (first | (go_at_call 34; (with_reducible refine (HTH.out _ HK.out.mem).mono ?_); rintro e w2 ⟨rfl, hb2⟩; have HK := hid (HK.out.below hb2); clear hb2; clear m0 m1 m2 m3 m4 d0 d1 d2 d3 d4 df o0 o1 o2 o3 o4 of; obtain ⟨m0, m1, m2, m3, m4, _⟩ := HK.out.three.map.facts; obtain ⟨d0, d1, d2, d3, d4, df⟩ := HK.out.three.box.facts; obtain ⟨o0, o1, o2, o3, o4, of⟩ := HK.out.three.out.facts) | (go_at_call 42; (with_reducible refine (HLV.out _ HK.out.mem).mono ?_); rintro e w3 ⟨rfl, hm3, hw3⟩; have HK := hid (HK.out.next hm3 hw3 HOLD.out); clear hm3 hw3; clear m0 m1 m2 m3 m4 d0 d1 d2 d3 d4 df o0 o1 o2 o3 o4 of; obtain ⟨m0, m1, m2, m3, m4, _⟩ := HK.out.three.map.facts; obtain ⟨d0, d1, d2, d3, d4, df⟩ := HK.out.three.box.facts; obtain ⟨o0, o1, o2, o3, o4, of⟩ := HK.out.three.out.facts))
  refine bodyPost_ret (v := (HD.mk gt gl gs gr gx).v) (by simp [results, Try.results18, go_sem, o0, o1, o2, o3, o4, of]) rfl ?_
  exact HK.out.out HOLD.out ⟨gt, gl, gs, gr, gx⟩ rfl _ _ _ _ _

set_option maxRecDepth 100000 in
set_option maxHeartbeats 4000000 in
theorem rTake_13w (m : PM) (h : HD) (w : World) (B b : Nat) (vw : Value) (s : MS) (hm : Mem w B b vw s) (hz : m.size ≤ (s.zs.length : Int)) (hmay : mayH m h) (hsv : h.s = 13) (hrd : h.rd = false) :
    Calls Try.prog 18 #[m.v, .pointer (some ⟨b, 0, none⟩), h.v] w (HandRet 72 2 h s B b vw w) := by
  have HST := hid (TkAt.start 72 26 2 m h h0 hm)
  have HOLD := hid hm.hold
  have HTH := hid (fun (x : World) (hb : Mem x B b vw s) => (show Calls Try.prog 34 #[m.v, .pointer (some ⟨b, 0, none⟩), h.v] x fun e w' => e = .returned (.bool true) ∧ Below x.heap.size x w' from by have := there_any m h x B b vw s hb hz; rwa [mayHB_yes hmay] at this))
  clear hm hz hmay
  obtain ⟨s1, ml, mt, c, d⟩ := m
  obtain ⟨ht, hl, hs, hr, hx⟩ := h
  simp only at hsv
  subst hsv
  simp only at hrd
  subst hrd
  show Calls _ _ #[.agg #[.int .i64 s1, .int .i64 ml, .int .i64 mt, .int .i64 c, .int .i64 d], _, .agg #[.int .i64 ht, .int .i64 hl, .int .i64 13, .bool false, .int .i64 hx]] _ _
  go_enter Try.func18, Try.ntmps18
  go_upto_region 1 with fail
  refine wp_rename _ HST.out ?_
  intro W hk
  have HK := hid hk
  obtain ⟨m0, m1, m2, m3, m4, _⟩ := hk.three.map.facts
  obtain ⟨d0, d1, d2, d3, d4, df⟩ := hk.three.box.facts
  obtain ⟨o0, o1, o2, o3, o4, of⟩ := hk.three.out.facts
  clear hk HST
  go_wp2_with ((go_at_call 34; (with_reducible refine (HTH.out _ HK.out.mem).mono ?_); rintro e w2 ⟨rfl, hb2⟩; have HK := hid (HK.out.below hb2); clear hb2; clear m0 m1 m2 m3 m4 d0 d1 d2 d3 d4 df o0 o1 o2 o3 o4 of; obtain ⟨m0, m1, m2, m3, m4, _⟩ := HK.out.three.map.facts; obtain ⟨d0, d1, d2, d3, d4, df⟩ := HK.out.three.box.facts; obtain ⟨o0, o1, o2, o3, o4, of⟩ := HK.out.three.out.facts))
  refine bodyPost_ret (v := (HD.mk ht hl 13 false hx).v) (by simp [results, Try.results18, go_sem, o0, o1, o2, o3, o4, of]) rfl ?_
  exact HK.out.done HOLD.out _ _ rfl rfl rfl _ _ _ _ _

set_option maxRecDepth 100000 in
set_option maxHeartbeats 4000000 in
theorem rTake_14r (m : PM) (h : HD) (w : World) (B b : Nat) (vw : Value) (s : MS) (hm : Mem w B b vw s) (hz : m.size ≤ (s.zs.length : Int)) (hmay : mayH m h) (hsv : h.s = 14) (hrd : h.rd = true) :
    Calls Try.prog 18 #[m.v, .pointer (some ⟨b, 0, none⟩), h.v] w (HandRet 72 2 (rwLeave m s h).1 (rwLeave m s h).2 B b vw w) := by
  have HST := hid (TkAt.start 72 26 2 m h h0 hm)
  have HOLD := hid hm.hold
  have HTH := hid (fun (x : World) (hb : Mem x B b vw s) => (show Calls Try.prog 34 #[m.v, .pointer (some ⟨b, 0, none⟩), h.v] x fun e w' => e = .returned (.bool true) ∧ Below x.heap.size x w' from by have := there_any m h x B b vw s hb hz; rwa [mayHB_yes hmay] at this))
  have HLV := hid (fun (x : World) (hb : Mem x B b vw s) => leave_14 m h x B b vw s hb hz hsv)
  clear hm hz hmay
  generalize (rwLeave m s h).2 = s2 at *
  generalize (rwLeave m s h).1 = g at *
  obtain ⟨gt, gl, gs, gr, gx⟩ := g
  obtain ⟨s1, ml, mt, c, d⟩ := m
  obtain ⟨ht, hl, hs, hr, hx⟩ := h
  simp only at hsv
  subst hsv
  simp only at hrd
  subst hrd
  show Calls _ _ #[.agg #[.int .i64 s1, .int .i64 ml, .int .i64 mt, .int .i64 c, .int .i64 d], _, .agg #[.int .i64 ht, .int .i64 hl, .int .i64 14, .bool true, .int .i64 hx]] _ _
  go_enter Try.func18, Try.ntmps18
  go_upto_region 1 with fail
  refine wp_rename _ HST.out ?_
  intro W hk
  have HK := hid hk
  obtain ⟨m0, m1, m2, m3, m4, _⟩ := hk.three.map.facts
  obtain ⟨d0, d1, d2, d3, d4, df⟩ := hk.three.box.facts
  obtain ⟨o0, o1, o2, o3, o4, of⟩ := hk.three.out.facts
  clear hk HST
  go_wp2_with (first | (go_at_call 34; (with_reducible refine (HTH.out _ HK.out.mem).mono ?_); rintro e w2 ⟨rfl, hb2⟩; have HK := hid (HK.out.below hb2); clear hb2; clear m0 m1 m2 m3 m4 d0 d1 d2 d3 d4 df o0 o1 o2 o3 o4 of; obtain ⟨m0, m1, m2, m3, m4, _⟩ := HK.out.three.map.facts; obtain ⟨d0, d1, d2, d3, d4, df⟩ := HK.out.three.box.facts; obtain ⟨o0, o1, o2, o3, o4, of⟩ := HK.out.three.out.facts) | (go_at_call 42; (with_reducible refine (HLV.out _ HK.out.mem).mono ?_); rintro e w3 ⟨rfl, hm3, hw3⟩; have HK := hid (HK.out.next hm3 hw3 HOLD.out); clear hm3 hw3; clear m0 m1 m2 m3 m4 d0 d1 d2 d3 d4 df o0 o1 o2 o3 o4 of; obtain ⟨m0, m1, m2, m3, m4, _⟩ := HK.out.three.map.facts; obtain ⟨d0, d1, d2, d3, d4, df⟩ := HK.out.three.box.facts; obtain ⟨o0, o1, o2, o3, o4, of⟩ := HK.out.three.out.facts))
  refine bodyPost_ret (v := (HD.mk gt gl gs gr gx).v) (by simp [results, Try.results18, go_sem, o0, o1, o2, o3, o4, of]) rfl ?_
  exact HK.out.out HOLD.out ⟨gt, gl, gs, gr, gx⟩ rfl _ _ _ _ _

set_option maxRecDepth 100000 in
set_option maxHeartbeats 4000000 in
theorem rTake_14w (m : PM) (h : HD) (w : World) (B b : Nat) (vw : Value) (s : MS) (hm : Mem w B b vw s) (hz : m.size ≤ (s.zs.length : Int)) (hmay : mayH m h) (hsv : h.s = 14) (hrd : h.rd = false) :
    Calls Try.prog 18 #[m.v, .pointer (some ⟨b, 0, none⟩), h.v] w (HandRet 72 2 h s B b vw w) := by
  have HST := hid (TkAt.start 72 26 2 m h h0 hm)
  have HOLD := hid hm.hold
  have HTH := hid (fun (x : World) (hb : Mem x B b vw s) => (show Calls Try.prog 34 #[m.v, .pointer (some ⟨b, 0, none⟩), h.v] x fun e w' => e = .returned (.bool true) ∧ Below x.heap.size x w' from by have := there_any m h x B b vw s hb hz; rwa [mayHB_yes hmay] at this))
  clear hm hz hmay
  obtain ⟨s1, ml, mt, c, d⟩ := m
  obtain ⟨ht, hl, hs, hr, hx⟩ := h
  simp only at hsv
  subst hsv
  simp only at hrd
  subst hrd
  show Calls _ _ #[.agg #[.int .i64 s1, .int .i64 ml, .int .i64 mt, .int .i64 c, .int .i64 d], _, .agg #[.int .i64 ht, .int .i64 hl, .int .i64 14, .bool false, .int .i64 hx]] _ _
  go_enter Try.func18, Try.ntmps18
  go_upto_region 1 with fail
  refine wp_rename _ HST.out ?_
  intro W hk
  have HK := hid hk
  obtain ⟨m0, m1, m2, m3, m4, _⟩ := hk.three.map.facts
  obtain ⟨d0, d1, d2, d3, d4, df⟩ := hk.three.box.facts
  obtain ⟨o0, o1, o2, o3, o4, of⟩ := hk.three.out.facts
  clear hk HST
  go_wp2_with ((go_at_call 34; (with_reducible refine (HTH.out _ HK.out.mem).mono ?_); rintro e w2 ⟨rfl, hb2⟩; have HK := hid (HK.out.below hb2); clear hb2; clear m0 m1 m2 m3 m4 d0 d1 d2 d3 d4 df o0 o1 o2 o3 o4 of; obtain ⟨m0, m1, m2, m3, m4, _⟩ := HK.out.three.map.facts; obtain ⟨d0, d1, d2, d3, d4, df⟩ := HK.out.three.box.facts; obtain ⟨o0, o1, o2, o3, o4, of⟩ := HK.out.three.out.facts))
  refine bodyPost_ret (v := (HD.mk ht hl 14 false hx).v) (by simp [results, Try.results18, go_sem, o0, o1, o2, o3, o4, of]) rfl ?_
  exact HK.out.done HOLD.out _ _ rfl rfl rfl _ _ _ _ _

set_option maxRecDepth 100000 in
set_option maxHeartbeats 4000000 in
theorem rTake_q (m : PM) (h : HD) (w : World) (B b : Nat) (vw : Value) (s : MS) (hm : Mem w B b vw s) (hz : m.size ≤ (s.zs.length : Int)) (hmay : mayH m h) (q0 : ¬ h.s = 0) (q1 : ¬ h.s = 1) (q2 : ¬ h.s = 2) (q3 : ¬ h.s = 3) (q4 : ¬ h.s = 4) (q5 : ¬ h.s = 5) (q10 : ¬ h.s = 10) (q11 : ¬ h.s = 11) (q12 : ¬ h.s = 12) (q13 : ¬ h.s = 13) (q14 : ¬ h.s = 14) :
    Calls Try.prog 18 #[m.v, .pointer (some ⟨b, 0, none⟩), h.v] w (HandRet 72 2 h s B b vw w) := by
  have HST := hid (TkAt.start 72 26 2 m h h0 hm)
  have HOLD := hid hm.hold
  have HTH := hid (fun (x : World) (hb : Mem x B b vw s) => (show Calls Try.prog 34 #[m.v, .pointer (some ⟨b, 0, none⟩), h.v] x fun e w' => e = .returned (.bool true) ∧ Below x.heap.size x w' from by have := there_any m h x B b vw s hb hz; rwa [mayHB_yes hmay] at this))
  clear hm hz hmay
  obtain ⟨s1, ml, mt, c, d⟩ := m
  obtain ⟨ht, hl, hs, hr, hx⟩ := h
  simp only at q0 q1 q2 q3 q4 q5 q10 q11 q12 q13 q14
  show Calls _ _ #[.agg #[.int .i64 s1, .int .i64 ml, .int .i64 mt, .int .i64 c, .int .i64 d], _, .agg #[.int .i64 ht, .int .i64 hl, .int .i64 hs, .bool hr, .int .i64 hx]] _ _
  go_enter Try.func18, Try.ntmps18
  go_upto_region 1 with fail
  refine wp_rename _ HST.out ?_
  intro W hk
  have HK := hid hk
  obtain ⟨m0, m1, m2, m3, m4, _⟩ := hk.three.map.facts
  obtain ⟨d0, d1, d2, d3, d4, df⟩ := hk.three.box.facts
  obtain ⟨o0, o1, o2, o3, o4, of⟩ := hk.three.out.facts
  clear hk HST
  go_wp2_with ((go_at_call 34; (with_reducible refine (HTH.out _ HK.out.mem).mono ?_); rintro e w2 ⟨rfl, hb2⟩; have HK := hid (HK.out.below hb2); clear hb2; clear m0 m1 m2 m3 m4 d0 d1 d2 d3 d4 df o0 o1 o2 o3 o4 of; obtain ⟨m0, m1, m2, m3, m4, _⟩ := HK.out.three.map.facts; obtain ⟨d0, d1, d2, d3, d4, df⟩ := HK.out.three.box.facts; obtain ⟨o0, o1, o2, o3, o4, of⟩ := HK.out.three.out.facts))
  refine bodyPost_ret (v := (HD.mk ht hl hs hr hx).v) (by simp [results, Try.results18, go_sem, o0, o1, o2, o3, o4, of]) rfl ?_
  exact HK.out.done HOLD.out _ _ rfl rfl rfl _ _ _ _ _

theorem rwTake_any (m : PM) (h : HD) (w : World) (B b : Nat) (vw : Value) (s : MS) (hm : Mem w B b vw s) (hz : m.size ≤ (s.zs.length : Int)) :
    Calls Try.prog 18 #[m.v, .pointer (some ⟨b, 0, none⟩), h.v] w (HandRet 72 2 (rwTake m s h).1 (rwTake m s h).2 B b vw w) := by
  unfold rwTake
  by_cases hmay : mayH m h
  · rw [if_pos hmay]
    by_cases c : 0 ≤ h.s ∧ h.s ≤ 5
    · rw [if_pos c]
      rcases (show h.s = 0 ∨ h.s = 1 ∨ h.s = 2 ∨ h.s = 3 ∨ h.s = 4 ∨ h.s = 5 by omega) with q | q | q | q | q | q
      · exact rTake_0 m h w B b vw s hm hz hmay q
      · exact rTake_1 m h w B b vw s hm hz hmay q
      · exact rTake_2 m h w B b vw s hm hz hmay q
      · exact rTake_3 m h w B b vw s hm hz hmay q
      · exact rTake_4 m h w B b vw s hm hz hmay q
      · exact rTake_5 m h w B b vw s hm hz hmay q
    rw [if_neg c]
    by_cases c10 : h.s = 10
    · rw [if_pos c10]
      by_cases cr : h.rd = true
      · rw [if_pos cr]; exact rTake_10r m h w B b vw s hm hz hmay c10 cr
      · rw [if_neg cr]
        have cr' : h.rd = false := by simpa using cr
        by_cases cy : s.vAt (m.at_ 3 h.l 3) = 0
        · rw [if_pos cy]; exact rTake_10w m h w B b vw s hm hz hmay c10 cr' cy
        · rw [if_neg cy]; exact rTake_10wn m h w B b vw s hm hz hmay c10 cr' cy
    rw [if_neg c10]
    by_cases c11 : 11 ≤ h.s ∧ h.s ≤ 14
    · by_cases cr : h.rd = true
      · rw [if_pos ⟨c11, cr⟩]
        rcases (show h.s = 11 ∨ h.s = 12 ∨ h.s = 13 ∨ h.s = 14 by omega) with q | q | q | q
        · exact rTake_11r m h w B b vw s hm hz hmay q cr
        · exact rTake_12r m h w B b vw s hm hz hmay q cr
        · exact rTake_13r m h w B b vw s hm hz hmay q cr
        · exact rTake_14r m h w B b vw s hm hz hmay q cr
      · rw [if_neg (fun e => cr e.2)]
        have cr' : h.rd = false := by simpa using cr
        rcases (show h.s = 11 ∨ h.s = 12 ∨ h.s = 13 ∨ h.s = 14 by omega) with q | q | q | q
        · exact rTake_11w m h w B b vw s hm hz hmay q cr'
        · exact rTake_12w m h w B b vw s hm hz hmay q cr'
        · exact rTake_13w m h w B b vw s hm hz hmay q cr'
        · exact rTake_14w m h w B b vw s hm hz hmay q cr'
    · rw [if_neg (fun e => c11 e.1)]
      exact rTake_q m h w B b vw s hm hz hmay (by omega) (by omega) (by omega) (by omega) (by omega) (by omega) (by omega) (by omega) (by omega) (by omega) (by omega)
  · rw [if_neg hmay]
    exact rTake_no m h w B b vw s hm hz hmay

set_option maxRecDepth 100000 in
set_option maxHeartbeats 4000000 in
theorem rDrop_w (m : PM) (h : HD) (w : World) (B b : Nat) (vw : Value) (s : MS) (hm : Mem w B b vw s) (hz : m.size ≤ (s.zs.length : Int)) (hrd : h.rd = false) :
    Calls Try.prog 16 #[m.v, .pointer (some ⟨b, 0, none⟩), h.v] w (HandRet 72 2 (mcDrop m s h).1 (mcDrop m s h).2 B b vw w) := by
  have HST := hid (TkAt.start 72 26 2 m h h0 hm)
  have HOLD := hid hm.hold
  have HDR := hid (fun (x : World) (hb : Mem x B b vw s) => mDrop_any m h x B b vw s hb hz)
  clear hm hz
  generalize (mcDrop m s h).2 = s2 at *
  generalize (mcDrop m s h).1 = g at *
  obtain ⟨gt, gl, gs, gr, gx⟩ := g
  obtain ⟨s1, ml, mt, c, d⟩ := m
  obtain ⟨ht, hl, hs, hr, hx⟩ := h
  simp only at hrd
  subst hrd
  show Calls _ _ #[.agg #[.int .i64 s1, .int .i64 ml, .int .i64 mt, .int .i64 c, .int .i64 d], _, .agg #[.int .i64 ht, .int .i64 hl, .int .i64 hs, .bool false, .int .i64 hx]] _ _
  go_enter Try.func16, Try.ntmps16
  go_upto_region 1 with fail
  refine wp_rename _ HST.out ?_
  intro W hk
  have HK := hid hk
  obtain ⟨m0, m1, m2, m3, m4, _⟩ := hk.three.map.facts
  obtain ⟨d0, d1, d2, d3, d4, df⟩ := hk.three.box.facts
  obtain ⟨o0, o1, o2, o3, o4, of⟩ := hk.three.out.facts
  clear hk HST
  go_wp2_with ((go_at_call 33; (with_reducible refine (HDR.out _ HK.out.mem).mono ?_); rintro e w3 ⟨rfl, hm3, hw3⟩; have HK := hid (HK.out.next hm3 hw3 HOLD.out); clear hm3 hw3; clear m0 m1 m2 m3 m4 d0 d1 d2 d3 d4 df o0 o1 o2 o3 o4 of; obtain ⟨m0, m1, m2, m3, m4, _⟩ := HK.out.three.map.facts; obtain ⟨d0, d1, d2, d3, d4, df⟩ := HK.out.three.box.facts; obtain ⟨o0, o1, o2, o3, o4, of⟩ := HK.out.three.out.facts))
  refine bodyPost_ret (v := (HD.mk gt gl gs gr gx).v) (by simp [results, Try.results16, go_sem, o0, o1, o2, o3, o4, of]) rfl ?_
  exact HK.out.out HOLD.out ⟨gt, gl, gs, gr, gx⟩ rfl _ _ _ _ _

set_option maxRecDepth 100000 in
set_option maxHeartbeats 4000000 in
theorem rDrop_9 (m : PM) (h : HD) (w : World) (B b : Nat) (vw : Value) (s : MS) (hm : Mem w B b vw s) (hz : m.size ≤ (s.zs.length : Int)) (hrd : h.rd = true) (hmay : mayH m h) (hsv : h.s = 9) :
    Calls Try.prog 16 #[m.v, .pointer (some ⟨b, 0, none⟩), h.v] w (HandRet 72 2 ⟨h.t, h.l, 0, h.rd, h.x⟩ (s.added (m.at_ 3 h.l 3) (-1)) B b vw w) := by
  have HST := hid (TkAt.start 72 26 2 m h h0 hm)
  have HOLD := hid hm.hold
  have HTH := hid (fun (x : World) (hb : Mem x B b vw s) => (show Calls Try.prog 34 #[m.v, .pointer (some ⟨b, 0, none⟩), h.v] x fun e w' => e = .returned (.bool true) ∧ Below x.heap.size x w' from by have := there_any m h x B b vw s hb hz; rwa [mayHB_yes hmay] at this))
  have HCT := hid (fun (x : World) (hb : Mem x B b vw s) => count_9 m h x B b vw s hb hz hsv)
  clear hm hz hmay
  generalize s.added (m.at_ 3 h.l 3) (-1) = s2 at *
  obtain ⟨s1, ml, mt, c, d⟩ := m
  obtain ⟨ht, hl, hs, hr, hx⟩ := h
  simp only at hsv
  subst hsv
  simp only at hrd
  subst hrd
  show Calls _ _ #[.agg #[.int .i64 s1, .int .i64 ml, .int .i64 mt, .int .i64 c, .int .i64 d], _, .agg #[.int .i64 ht, .int .i64 hl, .int .i64 9, .bool true, .int .i64 hx]] _ _
  go_enter Try.func16, Try.ntmps16
  go_upto_region 1 with fail
  refine wp_rename _ HST.out ?_
  intro W hk
  have HK := hid hk
  obtain ⟨m0, m1, m2, m3, m4, _⟩ := hk.three.map.facts
  obtain ⟨d0, d1, d2, d3, d4, df⟩ := hk.three.box.facts
  obtain ⟨o0, o1, o2, o3, o4, of⟩ := hk.three.out.facts
  clear hk HST
  go_wp2_with (first | (go_at_call 34; (with_reducible refine (HTH.out _ HK.out.mem).mono ?_); rintro e w2 ⟨rfl, hb2⟩; have HK := hid (HK.out.below hb2); clear hb2; clear m0 m1 m2 m3 m4 d0 d1 d2 d3 d4 df o0 o1 o2 o3 o4 of; obtain ⟨m0, m1, m2, m3, m4, _⟩ := HK.out.three.map.facts; obtain ⟨d0, d1, d2, d3, d4, df⟩ := HK.out.three.box.facts; obtain ⟨o0, o1, o2, o3, o4, of⟩ := HK.out.three.out.facts) | (go_at_call 35; (with_reducible refine (HCT.out _ HK.out.mem).mono ?_); rintro e w3 ⟨rfl, hm3, hw3⟩; have HK := hid (HK.out.next hm3 hw3 HOLD.out); clear hm3 hw3; clear m0 m1 m2 m3 m4 d0 d1 d2 d3 d4 df o0 o1 o2 o3 o4 of; obtain ⟨m0, m1, m2, m3, m4, _⟩ := HK.out.three.map.facts; obtain ⟨d0, d1, d2, d3, d4, df⟩ := HK.out.three.box.facts; obtain ⟨o0, o1, o2, o3, o4, of⟩ := HK.out.three.out.facts))
  refine bodyPost_ret (v := (HD.mk ht hl 0 true hx).v) (by simp [results, Try.results16, go_sem, o0, o1, o2, o3, o4, of]) rfl ?_
  exact HK.out.out HOLD.out ⟨ht, hl, 0, true, hx⟩ rfl _ _ _ _ _

set_option maxRecDepth 100000 in
set_option maxHeartbeats 4000000 in
theorem rDrop_9n (m : PM) (h : HD) (w : World) (B b : Nat) (vw : Value) (s : MS) (hm : Mem w B b vw s) (hz : m.size ≤ (s.zs.length : Int)) (hrd : h.rd = true) (hmay : ¬ mayH m h) (hsv : h.s = 9) :
    Calls Try.prog 16 #[m.v, .pointer (some ⟨b, 0, none⟩), h.v] w (HandRet 72 2 h s B b vw w) := by
  have HST := hid (TkAt.start 72 26 2 m h h0 hm)
  have HOLD := hid hm.hold
  have HTH := hid (fun (x : World) (hb : Mem x B b vw s) => (show Calls Try.prog 34 #[m.v, .pointer (some ⟨b, 0, none⟩), h.v] x fun e w' => e = .returned (.bool false) ∧ Below x.heap.size x w' from by have := there_any m h x B b vw s hb hz; rwa [mayHB_no hmay] at this))
  clear hm hz hmay
  obtain ⟨s1, ml, mt, c, d⟩ := m
  obtain ⟨ht, hl, hs, hr, hx⟩ := h
  simp only at hsv
  subst hsv
  simp only at hrd
  subst hrd
  show Calls _ _ #[.agg #[.int .i64 s1, .int .i64 ml, .int .i64 mt, .int .i64 c, .int .i64 d], _, .agg #[.int .i64 ht, .int .i64 hl, .int .i64 9, .bool true, .int .i64 hx]] _ _
  go_enter Try.func16, Try.ntmps16
  go_upto_region 1 with fail
  refine wp_rename _ HST.out ?_
  intro W hk
  have HK := hid hk
  obtain ⟨m0, m1, m2, m3, m4, _⟩ := hk.three.map.facts
  obtain ⟨d0, d1, d2, d3, d4, df⟩ := hk.three.box.facts
  obtain ⟨o0, o1, o2, o3, o4, of⟩ := hk.three.out.facts
  clear hk HST
  go_wp2_with ((go_at_call 34; (with_reducible refine (HTH.out _ HK.out.mem).mono ?_); rintro e w2 ⟨rfl, hb2⟩; have HK := hid (HK.out.below hb2); clear hb2; clear m0 m1 m2 m3 m4 d0 d1 d2 d3 d4 df o0 o1 o2 o3 o4 of; obtain ⟨m0, m1, m2, m3, m4, _⟩ := HK.out.three.map.facts; obtain ⟨d0, d1, d2, d3, d4, df⟩ := HK.out.three.box.facts; obtain ⟨o0, o1, o2, o3, o4, of⟩ := HK.out.three.out.facts))
  refine bodyPost_ret (v := (HD.mk ht hl 9 true hx).v) (by simp [results, Try.results16, go_sem, o0, o1, o2, o3, o4, of]) rfl ?_
  exact HK.out.done HOLD.out _ _ rfl rfl rfl _ _ _ _ _

set_option maxRecDepth 100000 in
set_option maxHeartbeats 4000000 in
theorem rDrop_q (m : PM) (h : HD) (w : World) (B b : Nat) (vw : Value) (s : MS) (hm : Mem w B b vw s) (hz : m.size ≤ (s.zs.length : Int)) (hrd : h.rd = true) (hsv : ¬ h.s = 9) :
    Calls Try.prog 16 #[m.v, .pointer (some ⟨b, 0, none⟩), h.v] w (HandRet 72 2 h s B b vw w) := by
  have HST := hid (TkAt.start 72 26 2 m h h0 hm)
  have HOLD := hid hm.hold
  clear hm hz
  obtain ⟨s1, ml, mt, c, d⟩ := m
  obtain ⟨ht, hl, hs, hr, hx⟩ := h
  simp only at hsv
  simp only at hrd
  subst hrd
  show Calls _ _ #[.agg #[.int .i64 s1, .int .i64 ml, .int .i64 mt, .int .i64 c, .int .i64 d], _, .agg #[.int .i64 ht, .int .i64 hl, .int .i64 hs, .bool true, .int .i64 hx]] _ _
  go_enter Try.func16, Try.ntmps16
  go_upto_region 1 with fail
  refine wp_rename _ HST.out ?_
  intro W hk
  have HK := hid hk
  obtain ⟨m0, m1, m2, m3, m4, _⟩ := hk.three.map.facts
  obtain ⟨d0, d1, d2, d3, d4, df⟩ := hk.three.box.facts
  obtain ⟨o0, o1, o2, o3, o4, of⟩ := hk.three.out.facts
  clear hk HST
  go_wp2_with fail
  refine bodyPost_ret (v := (HD.mk ht hl hs true hx).v) (by simp [results, Try.results16, go_sem, o0, o1, o2, o3, o4, of]) rfl ?_
  exact HK.out.done HOLD.out _ _ rfl rfl rfl _ _ _ _ _

theorem rwDrop_any (m : PM) (h : HD) (w : World) (B b : Nat) (vw : Value) (s : MS) (hm : Mem w B b vw s) (hz : m.size ≤ (s.zs.length : Int)) :
    Calls Try.prog 16 #[m.v, .pointer (some ⟨b, 0, none⟩), h.v] w (HandRet 72 2 (rwDrop m s h).1 (rwDrop m s h).2 B b vw w) := by
  unfold rwDrop
  by_cases cr : h.rd = false
  · rw [if_pos cr]; exact rDrop_w m h w B b vw s hm hz cr
  · rw [if_neg cr]
    have cr' : h.rd = true := by simpa using cr
    by_cases c9 : h.s = 9
    · by_cases hmay : mayH m h
      · rw [if_pos ⟨hmay, c9⟩]; exact rDrop_9 m h w B b vw s hm hz cr' hmay c9
      · rw [if_neg (fun e => hmay e.1)]; exact rDrop_9n m h w B b vw s hm hz cr' hmay c9
    · rw [if_neg (fun e => c9 e.2)]; exact rDrop_q m h w B b vw s hm hz cr' c9

end Go.Proofs.Ytmcmajndcbobpaa
