/-
  THE CONTRACTS of the document's RwTake and RwDrop.
-/
import Derived.Test.YtmcmajndcbobpaaRwC
namespace Go.Proofs.Ytmcmajndcbobpaa
open Go.RowKit
attribute [local go_sem] Later.cell Later.frozen

set_option maxRecDepth 100000 in
set_option maxHeartbeats 4000000 in
theorem rrTake_no (m : PM) (h : HD) (w : World) (B b : Nat) (vw : Value) (s : MS) (hm : Ref w B b vw s) (hz : m.size ≤ (s.zs.length : Int)) (hmay : ¬ mayH m h) :
    Calls Try.prog 19 #[m.v, .pointer (some ⟨b, 0, none⟩), h.v] w (HandRet 74 2 h s B b vw w) := by
  have HST := hid (TkAt.start 74 29 2 m h h0 hm)
  have HOLD := hid hm.hold
  have HMY := hid (fun (x : World) => rMayH_any m h x)
  have hy1 := mayHB_no hmay
  simp only [hy1] at HMY
  clear hy1
  clear hmay hm hz
  obtain ⟨s1, ml, mt, c, d⟩ := m
  obtain ⟨ht, hl, hs, hr, hx⟩ := h
  show Calls _ _ #[.agg #[.int .i64 s1, .int .i64 ml, .int .i64 mt, .int .i64 c, .int .i64 d], _, .agg #[.int .i64 ht, .int .i64 hl, .int .i64 hs, .bool hr, .int .i64 hx]] _ _
  go_enter Try.func19, Try.ntmps19
  go_upto_region 1 with fail
  refine wp_rename _ HST.out ?_
  intro W hk
  have HK := hid hk
  obtain ⟨m0, m1, m2, m3, m4, _⟩ := hk.three.map.facts
  obtain ⟨d0, d1, d2, d3, d4, df⟩ := hk.three.box.facts
  obtain ⟨o0, o1, o2, o3, o4, of⟩ := hk.three.out.facts
  clear hk HST
  go_wp2_with ((go_at_call 37; (with_reducible refine (HMY.out _).mono ?_); rintro e w1 ⟨rfl, hb1⟩; have HK := hid (HK.out.below hb1); clear hb1; clear m0 m1 m2 m3 m4 d0 d1 d2 d3 d4 df o0 o1 o2 o3 o4 of; obtain ⟨m0, m1, m2, m3, m4, _⟩ := HK.out.three.map.facts; obtain ⟨d0, d1, d2, d3, d4, df⟩ := HK.out.three.box.facts; obtain ⟨o0, o1, o2, o3, o4, of⟩ := HK.out.three.out.facts))
  refine bodyPost_ret (v := (HD.mk ht hl hs hr hx).v) (by simp [results, Try.results19, go_sem, o0, o1, o2, o3, o4, of]) rfl ?_
  exact HK.out.done HOLD.out _ _ rfl rfl rfl _ _ _ _ _

set_option maxRecDepth 100000 in
set_option maxHeartbeats 4000000 in
theorem rrTake_0 (m : PM) (h : HD) (w : World) (B b : Nat) (vw : Value) (s : MS) (hm : Ref w B b vw s) (hz : m.size ≤ (s.zs.length : Int)) (hmay : mayH m h) (hsv : h.s = 0) :
    Calls Try.prog 19 #[m.v, .pointer (some ⟨b, 0, none⟩), h.v] w (HandRet 74 2 (gotH (mcTake m s h).1) (mcTake m s h).2 B b vw w) := by
  have HST := hid (TkAt.start 74 29 2 m h h0 hm)
  have HOLD := hid hm.hold
  have HMY := hid (fun (x : World) => rMayH_any m h x)
  have hy1 := mayHB_yes hmay
  simp only [hy1] at HMY
  clear hy1
  have HLK := hid (fun (x : World) => refLock_any m h.l 3 x)
  have HTK := hid (fun (x : World) (hb : Ref x B b vw s) => rmTake_any m h x B b vw s hb hz)
  clear hm hz hmay
  generalize (mcTake m s h).2 = s2 at *
  generalize (mcTake m s h).1 = g at *
  generalize m.at_ 3 h.l 3 = p at *
  obtain ⟨gt, gl, gs, gr, gx⟩ := g
  obtain ⟨s1, ml, mt, c, d⟩ := m
  obtain ⟨ht, hl, hs, hr, hx⟩ := h
  simp only at hsv
  subst hsv
  show Calls _ _ #[.agg #[.int .i64 s1, .int .i64 ml, .int .i64 mt, .int .i64 c, .int .i64 d], _, .agg #[.int .i64 ht, .int .i64 hl, .int .i64 0, .bool hr, .int .i64 hx]] _ _
  go_enter Try.func19, Try.ntmps19
  go_upto_region 1 with fail
  refine wp_rename _ HST.out ?_
  intro W hk
  have HK := hid hk
  obtain ⟨m0, m1, m2, m3, m4, _⟩ := hk.three.map.facts
  obtain ⟨d0, d1, d2, d3, d4, df⟩ := hk.three.box.facts
  obtain ⟨o0, o1, o2, o3, o4, of⟩ := hk.three.out.facts
  clear hk HST
  go_upto_region 6 with (first | (go_at_call 37; (with_reducible refine (HMY.out _).mono ?_); rintro e w1 ⟨rfl, hb1⟩; have HK := hid (HK.out.below hb1); clear hb1; clear m0 m1 m2 m3 m4 d0 d1 d2 d3 d4 df o0 o1 o2 o3 o4 of; obtain ⟨m0, m1, m2, m3, m4, _⟩ := HK.out.three.map.facts; obtain ⟨d0, d1, d2, d3, d4, df⟩ := HK.out.three.box.facts; obtain ⟨o0, o1, o2, o3, o4, of⟩ := HK.out.three.out.facts) | (go_at_call 12; (with_reducible refine (HLK.out _).mono ?_); rintro e w2 ⟨rfl, hb2⟩; have HK := hid (HK.out.below hb2); clear hb2; clear m0 m1 m2 m3 m4 d0 d1 d2 d3 d4 df o0 o1 o2 o3 o4 of; obtain ⟨m0, m1, m2, m3, m4, _⟩ := HK.out.three.map.facts; obtain ⟨d0, d1, d2, d3, d4, df⟩ := HK.out.three.box.facts; obtain ⟨o0, o1, o2, o3, o4, of⟩ := HK.out.three.out.facts) | (go_at_call 43; (with_reducible refine (HTK.out _ HK.out.mem).mono ?_); rintro e w3 ⟨rfl, hm3, hw3⟩; have HK := hid (HK.out.next hm3 hw3 HOLD.out); clear hm3 hw3; clear m0 m1 m2 m3 m4 d0 d1 d2 d3 d4 df o0 o1 o2 o3 o4 of; obtain ⟨m0, m1, m2, m3, m4, _⟩ := HK.out.three.map.facts; obtain ⟨d0, d1, d2, d3, d4, df⟩ := HK.out.three.box.facts; obtain ⟨o0, o1, o2, o3, o4, of⟩ := HK.out.three.out.facts))
  refine wp_rename (fun W' => TkAt 74 29 2 w ⟨s1, ml, mt, c, d⟩ ⟨gt, gl, gs, gr, gx⟩ h0 B b vw s2 W') (HK.out.setH HOLD.out ⟨gt, gl, gs, gr, gx⟩) ?_
  clear HK HTK HMY HLK m0 m1 m2 m3 m4 d0 d1 d2 d3 d4 df o0 o1 o2 o3 o4 of
  intro W4 hk
  have HK := hid hk
  obtain ⟨d0, d1, d2, d3, d4, df⟩ := HK.out.three.box.facts
  obtain ⟨o0, o1, o2, o3, o4, of⟩ := HK.out.three.out.facts
  clear hk
  by_cases h9 : gs = 9
  · subst h9
    go_wp2_with fail
    refine bodyPost_ret (v := (HD.mk gt gl 10 gr gx).v) (by simp [results, Try.results19, go_sem, o0, o1, o2, o3, o4, of]) rfl ?_
    exact (HK.out.setS HOLD.out 10).done HOLD.out _ _ rfl rfl rfl _ _ _ _ _
  · go_wp2_with fail
    refine bodyPost_ret (v := (HD.mk gt gl gs gr gx).v) (by simp [results, Try.results19, go_sem, o0, o1, o2, o3, o4, of]) rfl ?_
    exact HK.out.done HOLD.out _ _ (by unfold gotH; rw [if_neg h9]) rfl rfl _ _ _ _ _

set_option maxRecDepth 100000 in
set_option maxHeartbeats 4000000 in
theorem rrTake_1 (m : PM) (h : HD) (w : World) (B b : Nat) (vw : Value) (s : MS) (hm : Ref w B b vw s) (hz : m.size ≤ (s.zs.length : Int)) (hmay : mayH m h) (hsv : h.s = 1) :
    Calls Try.prog 19 #[m.v, .pointer (some ⟨b, 0, none⟩), h.v] w (HandRet 74 2 (gotH (mcTake m s h).1) (mcTake m s h).2 B b vw w) := by
  have HST := hid (TkAt.start 74 29 2 m h h0 hm)
  have HOLD := hid hm.hold
  have HMY := hid (fun (x : World) => rMayH_any m h x)
  have hy1 := mayHB_yes hmay
  simp only [hy1] at HMY
  clear hy1
  have HLK := hid (fun (x : World) => refLock_any m h.l 3 x)
  have HTK := hid (fun (x : World) (hb : Ref x B b vw s) => rmTake_any m h x B b vw s hb hz)
  clear hm hz hmay
  generalize (mcTake m s h).2 = s2 at *
  generalize (mcTake m s h).1 = g at *
  generalize m.at_ 3 h.l 3 = p at *
  obtain ⟨gt, gl, gs, gr, gx⟩ := g
  obtain ⟨s1, ml, mt, c, d⟩ := m
  obtain ⟨ht, hl, hs, hr, hx⟩ := h
  simp only at hsv
  subst hsv
  show Calls _ _ #[.agg #[.int .i64 s1, .int .i64 ml, .int .i64 mt, .int .i64 c, .int .i64 d], _, .agg #[.int .i64 ht, .int .i64 hl, .int .i64 1, .bool hr, .int .i64 hx]] _ _
  go_enter Try.func19, Try.ntmps19
  go_upto_region 1 with fail
  refine wp_rename _ HST.out ?_
  intro W hk
  have HK := hid hk
  obtain ⟨m0, m1, m2, m3, m4, _⟩ := hk.three.map.facts
  obtain ⟨d0, d1, d2, d3, d4, df⟩ := hk.three.box.facts
  obtain ⟨o0, o1, o2, o3, o4, of⟩ := hk.three.out.facts
  clear hk HST
  go_upto_region 6 with (first | (go_at_call 37; (with_reducible refine (HMY.out _).mono ?_); rintro e w1 ⟨rfl, hb1⟩; have HK := hid (HK.out.below hb1); clear hb1; clear m0 m1 m2 m3 m4 d0 d1 d2 d3 d4 df o0 o1 o2 o3 o4 of; obtain ⟨m0, m1, m2, m3, m4, _⟩ := HK.out.three.map.facts; obtain ⟨d0, d1, d2, d3, d4, df⟩ := HK.out.three.box.facts; obtain ⟨o0, o1, o2, o3, o4, of⟩ := HK.out.three.out.facts) | (go_at_call 12; (with_reducible refine (HLK.out _).mono ?_); rintro e w2 ⟨rfl, hb2⟩; have HK := hid (HK.out.below hb2); clear hb2; clear m0 m1 m2 m3 m4 d0 d1 d2 d3 d4 df o0 o1 o2 o3 o4 of; obtain ⟨m0, m1, m2, m3, m4, _⟩ := HK.out.three.map.facts; obtain ⟨d0, d1, d2, d3, d4, df⟩ := HK.out.three.box.facts; obtain ⟨o0, o1, o2, o3, o4, of⟩ := HK.out.three.out.facts) | (go_at_call 43; (with_reducible refine (HTK.out _ HK.out.mem).mono ?_); rintro e w3 ⟨rfl, hm3, hw3⟩; have HK := hid (HK.out.next hm3 hw3 HOLD.out); clear hm3 hw3; clear m0 m1 m2 m3 m4 d0 d1 d2 d3 d4 df o0 o1 o2 o3 o4 of; obtain ⟨m0, m1, m2, m3, m4, _⟩ := HK.out.three.map.facts; obtain ⟨d0, d1, d2, d3, d4, df⟩ := HK.out.three.box.facts; obtain ⟨o0, o1, o2, o3, o4, of⟩ := HK.out.three.out.facts))
  refine wp_rename (fun W' => TkAt 74 29 2 w ⟨s1, ml, mt, c, d⟩ ⟨gt, gl, gs, gr, gx⟩ h0 B b vw s2 W') (HK.out.setH HOLD.out ⟨gt, gl, gs, gr, gx⟩) ?_
  clear HK HTK HMY HLK m0 m1 m2 m3 m4 d0 d1 d2 d3 d4 df o0 o1 o2 o3 o4 of
  intro W4 hk
  have HK := hid hk
  obtain ⟨d0, d1, d2, d3, d4, df⟩ := HK.out.three.box.facts
  obtain ⟨o0, o1, o2, o3, o4, of⟩ := HK.out.three.out.facts
  clear hk
  by_cases h9 : gs = 9
  · subst h9
    go_wp2_with fail
    refine bodyPost_ret (v := (HD.mk gt gl 10 gr gx).v) (by simp [results, Try.results19, go_sem, o0, o1, o2, o3, o4, of]) rfl ?_
    exact (HK.out.setS HOLD.out 10).done HOLD.out _ _ rfl rfl rfl _ _ _ _ _
  · go_wp2_with fail
    refine bodyPost_ret (v := (HD.mk gt gl gs gr gx).v) (by simp [results, Try.results19, go_sem, o0, o1, o2, o3, o4, of]) rfl ?_
    exact HK.out.done HOLD.out _ _ (by unfold gotH; rw [if_neg h9]) rfl rfl _ _ _ _ _

set_option maxRecDepth 100000 in
set_option maxHeartbeats 4000000 in
theorem rrTake_2 (m : PM) (h : HD) (w : World) (B b : Nat) (vw : Value) (s : MS) (hm : Ref w B b vw s) (hz : m.size ≤ (s.zs.length : Int)) (hmay : mayH m h) (hsv : h.s = 2) :
    Calls Try.prog 19 #[m.v, .pointer (some ⟨b, 0, none⟩), h.v] w (HandRet 74 2 (gotH (mcTake m s h).1) (mcTake m s h).2 B b vw w) := by
  have HST := hid (TkAt.start 74 29 2 m h h0 hm)
  have HOLD := hid hm.hold
  have HMY := hid (fun (x : World) => rMayH_any m h x)
  have hy1 := mayHB_yes hmay
  simp only [hy1] at HMY
  clear hy1
  have HLK := hid (fun (x : World) => refLock_any m h.l 3 x)
  have HTK := hid (fun (x : World) (hb : Ref x B b vw s) => rmTake_any m h x B b vw s hb hz)
  clear hm hz hmay
  generalize (mcTake m s h).2 = s2 at *
  generalize (mcTake m s h).1 = g at *
  generalize m.at_ 3 h.l 3 = p at *
  obtain ⟨gt, gl, gs, gr, gx⟩ := g
  obtain ⟨s1, ml, mt, c, d⟩ := m
  obtain ⟨ht, hl, hs, hr, hx⟩ := h
  simp only at hsv
  subst hsv
  show Calls _ _ #[.agg #[.int .i64 s1, .int .i64 ml, .int .i64 mt, .int .i64 c, .int .i64 d], _, .agg #[.int .i64 ht, .int .i64 hl, .int .i64 2, .bool hr, .int .i64 hx]] _ _
  go_enter Try.func19, Try.ntmps19
  go_upto_region 1 with fail
  refine wp_rename _ HST.out ?_
  intro W hk
  have HK := hid hk
  obtain ⟨m0, m1, m2, m3, m4, _⟩ := hk.three.map.facts
  obtain ⟨d0, d1, d2, d3, d4, df⟩ := hk.three.box.facts
  obtain ⟨o0, o1, o2, o3, o4, of⟩ := hk.three.out.facts
  clear hk HST
  go_upto_region 6 with (first | (go_at_call 37; (with_reducible refine (HMY.out _).mono ?_); rintro e w1 ⟨rfl, hb1⟩; have HK := hid (HK.out.below hb1); clear hb1; clear m0 m1 m2 m3 m4 d0 d1 d2 d3 d4 df o0 o1 o2 o3 o4 of; obtain ⟨m0, m1, m2, m3, m4, _⟩ := HK.out.three.map.facts; obtain ⟨d0, d1, d2, d3, d4, df⟩ := HK.out.three.box.facts; obtain ⟨o0, o1, o2, o3, o4, of⟩ := HK.out.three.out.facts) | (go_at_call 12; (with_reducible refine (HLK.out _).mono ?_); rintro e w2 ⟨rfl, hb2⟩; have HK := hid (HK.out.below hb2); clear hb2; clear m0 m1 m2 m3 m4 d0 d1 d2 d3 d4 df o0 o1 o2 o3 o4 of; obtain ⟨m0, m1, m2, m3, m4, _⟩ := HK.out.three.map.facts; obtain ⟨d0, d1, d2, d3, d4, df⟩ := HK.out.three.box.facts; obtain ⟨o0, o1, o2, o3, o4, of⟩ := HK.out.three.out.facts) | (go_at_call 43; (with_reducible refine (HTK.out _ HK.out.mem).mono ?_); rintro e w3 ⟨rfl, hm3, hw3⟩; have HK := hid (HK.out.next hm3 hw3 HOLD.out); clear hm3 hw3; clear m0 m1 m2 m3 m4 d0 d1 d2 d3 d4 df o0 o1 o2 o3 o4 of; obtain ⟨m0, m1, m2, m3, m4, _⟩ := HK.out.three.map.facts; obtain ⟨d0, d1, d2, d3, d4, df⟩ := HK.out.three.box.facts; obtain ⟨o0, o1, o2, o3, o4, of⟩ := HK.out.three.out.facts))
  refine wp_rename (fun W' => TkAt 74 29 2 w ⟨s1, ml, mt, c, d⟩ ⟨gt, gl, gs, gr, gx⟩ h0 B b vw s2 W') (HK.out.setH HOLD.out ⟨gt, gl, gs, gr, gx⟩) ?_
  clear HK HTK HMY HLK m0 m1 m2 m3 m4 d0 d1 d2 d3 d4 df o0 o1 o2 o3 o4 of
  intro W4 hk
  have HK := hid hk
  obtain ⟨d0, d1, d2, d3, d4, df⟩ := HK.out.three.box.facts
  obtain ⟨o0, o1, o2, o3, o4, of⟩ := HK.out.three.out.facts
  clear hk
  by_cases h9 : gs = 9
  · subst h9
    go_wp2_with fail
    refine bodyPost_ret (v := (HD.mk gt gl 10 gr gx).v) (by simp [results, Try.results19, go_sem, o0, o1, o2, o3, o4, of]) rfl ?_
    exact (HK.out.setS HOLD.out 10).done HOLD.out _ _ rfl rfl rfl _ _ _ _ _
  · go_wp2_with fail
    refine bodyPost_ret (v := (HD.mk gt gl gs gr gx).v) (by simp [results, Try.results19, go_sem, o0, o1, o2, o3, o4, of]) rfl ?_
    exact HK.out.done HOLD.out _ _ (by unfold gotH; rw [if_neg h9]) rfl rfl _ _ _ _ _

set_option maxRecDepth 100000 in
set_option maxHeartbeats 4000000 in
theorem rrTake_3 (m : PM) (h : HD) (w : World) (B b : Nat) (vw : Value) (s : MS) (hm : Ref w B b vw s) (hz : m.size ≤ (s.zs.length : Int)) (hmay : mayH m h) (hsv : h.s = 3) :
    Calls Try.prog 19 #[m.v, .pointer (some ⟨b, 0, none⟩), h.v] w (HandRet 74 2 (gotH (mcTake m s h).1) (mcTake m s h).2 B b vw w) := by
  have HST := hid (TkAt.start 74 29 2 m h h0 hm)
  have HOLD := hid hm.hold
  have HMY := hid (fun (x : World) => rMayH_any m h x)
  have hy1 := mayHB_yes hmay
  simp only [hy1] at HMY
  clear hy1
  have HLK := hid (fun (x : World) => refLock_any m h.l 3 x)
  have HTK := hid (fun (x : World) (hb : Ref x B b vw s) => rmTake_any m h x B b vw s hb hz)
  clear hm hz hmay
  generalize (mcTake m s h).2 = s2 at *
  generalize (mcTake m s h).1 = g at *
  generalize m.at_ 3 h.l 3 = p at *
  obtain ⟨gt, gl, gs, gr, gx⟩ := g
  obtain ⟨s1, ml, mt, c, d⟩ := m
  obtain ⟨ht, hl, hs, hr, hx⟩ := h
  simp only at hsv
  subst hsv
  show Calls _ _ #[.agg #[.int .i64 s1, .int .i64 ml, .int .i64 mt, .int .i64 c, .int .i64 d], _, .agg #[.int .i64 ht, .int .i64 hl, .int .i64 3, .bool hr, .int .i64 hx]] _ _
  go_enter Try.func19, Try.ntmps19
  go_upto_region 1 with fail
  refine wp_rename _ HST.out ?_
  intro W hk
  have HK := hid hk
  obtain ⟨m0, m1, m2, m3, m4, _⟩ := hk.three.map.facts
  obtain ⟨d0, d1, d2, d3, d4, df⟩ := hk.three.box.facts
  obtain ⟨o0, o1, o2, o3, o4, of⟩ := hk.three.out.facts
  clear hk HST
  go_upto_region 6 with (first | (go_at_call 37; (with_reducible refine (HMY.out _).mono ?_); rintro e w1 ⟨rfl, hb1⟩; have HK := hid (HK.out.below hb1); clear hb1; clear m0 m1 m2 m3 m4 d0 d1 d2 d3 d4 df o0 o1 o2 o3 o4 of; obtain ⟨m0, m1, m2, m3, m4, _⟩ := HK.out.three.map.facts; obtain ⟨d0, d1, d2, d3, d4, df⟩ := HK.out.three.box.facts; obtain ⟨o0, o1, o2, o3, o4, of⟩ := HK.out.three.out.facts) | (go_at_call 12; (with_reducible refine (HLK.out _).mono ?_); rintro e w2 ⟨rfl, hb2⟩; have HK := hid (HK.out.below hb2); clear hb2; clear m0 m1 m2 m3 m4 d0 d1 d2 d3 d4 df o0 o1 o2 o3 o4 of; obtain ⟨m0, m1, m2, m3, m4, _⟩ := HK.out.three.map.facts; obtain ⟨d0, d1, d2, d3, d4, df⟩ := HK.out.three.box.facts; obtain ⟨o0, o1, o2, o3, o4, of⟩ := HK.out.three.out.facts) | (go_at_call 43; (with_reducible refine (HTK.out _ HK.out.mem).mono ?_); rintro e w3 ⟨rfl, hm3, hw3⟩; have HK := hid (HK.out.next hm3 hw3 HOLD.out); clear hm3 hw3; clear m0 m1 m2 m3 m4 d0 d1 d2 d3 d4 df o0 o1 o2 o3 o4 of; obtain ⟨m0, m1, m2, m3, m4, _⟩ := HK.out.three.map.facts; obtain ⟨d0, d1, d2, d3, d4, df⟩ := HK.out.three.box.facts; obtain ⟨o0, o1, o2, o3, o4, of⟩ := HK.out.three.out.facts))
  refine wp_rename (fun W' => TkAt 74 29 2 w ⟨s1, ml, mt, c, d⟩ ⟨gt, gl, gs, gr, gx⟩ h0 B b vw s2 W') (HK.out.setH HOLD.out ⟨gt, gl, gs, gr, gx⟩) ?_
  clear HK HTK HMY HLK m0 m1 m2 m3 m4 d0 d1 d2 d3 d4 df o0 o1 o2 o3 o4 of
  intro W4 hk
  have HK := hid hk
  obtain ⟨d0, d1, d2, d3, d4, df⟩ := HK.out.three.box.facts
  obtain ⟨o0, o1, o2, o3, o4, of⟩ := HK.out.three.out.facts
  clear hk
  by_cases h9 : gs = 9
  · subst h9
    go_wp2_with fail
    refine bodyPost_ret (v := (HD.mk gt gl 10 gr gx).v) (by simp [results, Try.results19, go_sem, o0, o1, o2, o3, o4, of]) rfl ?_
    exact (HK.out.setS HOLD.out 10).done HOLD.out _ _ rfl rfl rfl _ _ _ _ _
  · go_wp2_with fail
    refine bodyPost_ret (v := (HD.mk gt gl gs gr gx).v) (by simp [results, Try.results19, go_sem, o0, o1, o2, o3, o4, of]) rfl ?_
    exact HK.out.done HOLD.out _ _ (by unfold gotH; rw [if_neg h9]) rfl rfl _ _ _ _ _

set_option maxRecDepth 100000 in
set_option maxHeartbeats 4000000 in
theorem rrTake_4 (m : PM) (h : HD) (w : World) (B b : Nat) (vw : Value) (s : MS) (hm : Ref w B b vw s) (hz : m.size ≤ (s.zs.length : Int)) (hmay : mayH m h) (hsv : h.s = 4) :
    Calls Try.prog 19 #[m.v, .pointer (some ⟨b, 0, none⟩), h.v] w (HandRet 74 2 (gotH (mcTake m s h).1) (mcTake m s h).2 B b vw w) := by
  have HST := hid (TkAt.start 74 29 2 m h h0 hm)
  have HOLD := hid hm.hold
  have HMY := hid (fun (x : World) => rMayH_any m h x)
  have hy1 := mayHB_yes hmay
  simp only [hy1] at HMY
  clear hy1
  have HLK := hid (fun (x : World) => refLock_any m h.l 3 x)
  have HTK := hid (fun (x : World) (hb : Ref x B b vw s) => rmTake_any m h x B b vw s hb hz)
  clear hm hz hmay
  generalize (mcTake m s h).2 = s2 at *
  generalize (mcTake m s h).1 = g at *
  generalize m.at_ 3 h.l 3 = p at *
  obtain ⟨gt, gl, gs, gr, gx⟩ := g
  obtain ⟨s1, ml, mt, c, d⟩ := m
  obtain ⟨ht, hl, hs, hr, hx⟩ := h
  simp only at hsv
  subst hsv
  show Calls _ _ #[.agg #[.int .i64 s1, .int .i64 ml, .int .i64 mt, .int .i64 c, .int .i64 d], _, .agg #[.int .i64 ht, .int .i64 hl, .int .i64 4, .bool hr, .int .i64 hx]] _ _
  go_enter Try.func19, Try.ntmps19
  go_upto_region 1 with fail
  refine wp_rename _ HST.out ?_
  intro W hk
  have HK := hid hk
  obtain ⟨m0, m1, m2, m3, m4, _⟩ := hk.three.map.facts
  obtain ⟨d0, d1, d2, d3, d4, df⟩ := hk.three.box.facts
  obtain ⟨o0, o1, o2, o3, o4, of⟩ := hk.three.out.facts
  clear hk HST
  go_upto_region 6 with (first | (go_at_call 37; (with_reducible refine (HMY.out _).mono ?_); rintro e w1 ⟨rfl, hb1⟩; have HK := hid (HK.out.below hb1); clear hb1; clear m0 m1 m2 m3 m4 d0 d1 d2 d3 d4 df o0 o1 o2 o3 o4 of; obtain ⟨m0, m1, m2, m3, m4, _⟩ := HK.out.three.map.facts; obtain ⟨d0, d1, d2, d3, d4, df⟩ := HK.out.three.box.facts; obtain ⟨o0, o1, o2, o3, o4, of⟩ := HK.out.three.out.facts) | (go_at_call 12; (with_reducible refine (HLK.out _).mono ?_); rintro e w2 ⟨rfl, hb2⟩; have HK := hid (HK.out.below hb2); clear hb2; clear m0 m1 m2 m3 m4 d0 d1 d2 d3 d4 df o0 o1 o2 o3 o4 of; obtain ⟨m0, m1, m2, m3, m4, _⟩ := HK.out.three.map.facts; obtain ⟨d0, d1, d2, d3, d4, df⟩ := HK.out.three.box.facts; obtain ⟨o0, o1, o2, o3, o4, of⟩ := HK.out.three.out.facts) | (go_at_call 43; (with_reducible refine (HTK.out _ HK.out.mem).mono ?_); rintro e w3 ⟨rfl, hm3, hw3⟩; have HK := hid (HK.out.next hm3 hw3 HOLD.out); clear hm3 hw3; clear m0 m1 m2 m3 m4 d0 d1 d2 d3 d4 df o0 o1 o2 o3 o4 of; obtain ⟨m0, m1, m2, m3, m4, _⟩ := HK.out.three.map.facts; obtain ⟨d0, d1, d2, d3, d4, df⟩ := HK.out.three.box.facts; obtain ⟨o0, o1, o2, o3, o4, of⟩ := HK.out.three.out.facts))
  refine wp_rename (fun W' => TkAt 74 29 2 w ⟨s1, ml, mt, c, d⟩ ⟨gt, gl, gs, gr, gx⟩ h0 B b vw s2 W') (HK.out.setH HOLD.out ⟨gt, gl, gs, gr, gx⟩) ?_
  clear HK HTK HMY HLK m0 m1 m2 m3 m4 d0 d1 d2 d3 d4 df o0 o1 o2 o3 o4 of
  intro W4 hk
  have HK := hid hk
  obtain ⟨d0, d1, d2, d3, d4, df⟩ := HK.out.three.box.facts
  obtain ⟨o0, o1, o2, o3, o4, of⟩ := HK.out.three.out.facts
  clear hk
  by_cases h9 : gs = 9
  · subst h9
    go_wp2_with fail
    refine bodyPost_ret (v := (HD.mk gt gl 10 gr gx).v) (by simp [results, Try.results19, go_sem, o0, o1, o2, o3, o4, of]) rfl ?_
    exact (HK.out.setS HOLD.out 10).done HOLD.out _ _ rfl rfl rfl _ _ _ _ _
  · go_wp2_with fail
    refine bodyPost_ret (v := (HD.mk gt gl gs gr gx).v) (by simp [results, Try.results19, go_sem, o0, o1, o2, o3, o4, of]) rfl ?_
    exact HK.out.done HOLD.out _ _ (by unfold gotH; rw [if_neg h9]) rfl rfl _ _ _ _ _

set_option maxRecDepth 100000 in
set_option maxHeartbeats 4000000 in
theorem rrTake_5 (m : PM) (h : HD) (w : World) (B b : Nat) (vw : Value) (s : MS) (hm : Ref w B b vw s) (hz : m.size ≤ (s.zs.length : Int)) (hmay : mayH m h) (hsv : h.s = 5) :
    Calls Try.prog 19 #[m.v, .pointer (some ⟨b, 0, none⟩), h.v] w (HandRet 74 2 (gotH (mcTake m s h).1) (mcTake m s h).2 B b vw w) := by
  have HST := hid (TkAt.start 74 29 2 m h h0 hm)
  have HOLD := hid hm.hold
  have HMY := hid (fun (x : World) => rMayH_any m h x)
  have hy1 := mayHB_yes hmay
  simp only [hy1] at HMY
  clear hy1
  have HLK := hid (fun (x : World) => refLock_any m h.l 3 x)
  have HTK := hid (fun (x : World) (hb : Ref x B b vw s) => rmTake_any m h x B b vw s hb hz)
  clear hm hz hmay
  generalize (mcTake m s h).2 = s2 at *
  generalize (mcTake m s h).1 = g at *
  generalize m.at_ 3 h.l 3 = p at *
  obtain ⟨gt, gl, gs, gr, gx⟩ := g
  obtain ⟨s1, ml, mt, c, d⟩ := m
  obtain ⟨ht, hl, hs, hr, hx⟩ := h
  simp only at hsv
  subst hsv
  show Calls _ _ #[.agg #[.int .i64 s1, .int .i64 ml, .int .i64 mt, .int .i64 c, .int .i64 d], _, .agg #[.int .i64 ht, .int .i64 hl, .int .i64 5, .bool hr, .int .i64 hx]] _ _
  go_enter Try.func19, Try.ntmps19
  go_upto_region 1 with fail
  refine wp_rename _ HST.out ?_
  intro W hk
  have HK := hid hk
  obtain ⟨m0, m1, m2, m3, m4, _⟩ := hk.three.map.facts
  obtain ⟨d0, d1, d2, d3, d4, df⟩ := hk.three.box.facts
  obtain ⟨o0, o1, o2, o3, o4, of⟩ := hk.three.out.facts
  clear hk HST
  go_upto_region 6 with (first | (go_at_call 37; (with_reducible refine (HMY.out _).mono ?_); rintro e w1 ⟨rfl, hb1⟩; have HK := hid (HK.out.below hb1); clear hb1; clear m0 m1 m2 m3 m4 d0 d1 d2 d3 d4 df o0 o1 o2 o3 o4 of; obtain ⟨m0, m1, m2, m3, m4, _⟩ := HK.out.three.map.facts; obtain ⟨d0, d1, d2, d3, d4, df⟩ := HK.out.three.box.facts; obtain ⟨o0, o1, o2, o3, o4, of⟩ := HK.out.three.out.facts) | (go_at_call 12; (with_reducible refine (HLK.out _).mono ?_); rintro e w2 ⟨rfl, hb2⟩; have HK := hid (HK.out.below hb2); clear hb2; clear m0 m1 m2 m3 m4 d0 d1 d2 d3 d4 df o0 o1 o2 o3 o4 of; obtain ⟨m0, m1, m2, m3, m4, _⟩ := HK.out.three.map.facts; obtain ⟨d0, d1, d2, d3, d4, df⟩ := HK.out.three.box.facts; obtain ⟨o0, o1, o2, o3, o4, of⟩ := HK.out.three.out.facts) | (go_at_call 43; (with_reducible refine (HTK.out _ HK.out.mem).mono ?_); rintro e w3 ⟨rfl, hm3, hw3⟩; have HK := hid (HK.out.next hm3 hw3 HOLD.out); clear hm3 hw3; clear m0 m1 m2 m3 m4 d0 d1 d2 d3 d4 df o0 o1 o2 o3 o4 of; obtain ⟨m0, m1, m2, m3, m4, _⟩ := HK.out.three.map.facts; obtain ⟨d0, d1, d2, d3, d4, df⟩ := HK.out.three.box.facts; obtain ⟨o0, o1, o2, o3, o4, of⟩ := HK.out.three.out.facts))
  refine wp_rename (fun W' => TkAt 74 29 2 w ⟨s1, ml, mt, c, d⟩ ⟨gt, gl, gs, gr, gx⟩ h0 B b vw s2 W') (HK.out.setH HOLD.out ⟨gt, gl, gs, gr, gx⟩) ?_
  clear HK HTK HMY HLK m0 m1 m2 m3 m4 d0 d1 d2 d3 d4 df o0 o1 o2 o3 o4 of
  intro W4 hk
  have HK := hid hk
  obtain ⟨d0, d1, d2, d3, d4, df⟩ := HK.out.three.box.facts
  obtain ⟨o0, o1, o2, o3, o4, of⟩ := HK.out.three.out.facts
  clear hk
  by_cases h9 : gs = 9
  · subst h9
    go_wp2_with fail
    refine bodyPost_ret (v := (HD.mk gt gl 10 gr gx).v) (by simp [results, Try.results19, go_sem, o0, o1, o2, o3, o4, of]) rfl ?_
    exact (HK.out.setS HOLD.out 10).done HOLD.out _ _ rfl rfl rfl _ _ _ _ _
  · go_wp2_with fail
    refine bodyPost_ret (v := (HD.mk gt gl gs gr gx).v) (by simp [results, Try.results19, go_sem, o0, o1, o2, o3, o4, of]) rfl ?_
    exact HK.out.done HOLD.out _ _ (by unfold gotH; rw [if_neg h9]) rfl rfl _ _ _ _ _

set_option maxRecDepth 100000 in
set_option maxHeartbeats 4000000 in
theorem rrTake_10r (m : PM) (h : HD) (w : World) (B b : Nat) (vw : Value) (s : MS) (hm : Ref w B b vw s) (hz : m.size ≤ (s.zs.length : Int)) (hmay : mayH m h) (hsv : h.s = 10) (hrd : h.rd = true) :
    Calls Try.prog 19 #[m.v, .pointer (some ⟨b, 0, none⟩), h.v] w (HandRet 74 2 ⟨h.t, h.l, 11, h.rd, h.x⟩ (s.added (m.at_ 3 h.l 3) 1) B b vw w) := by
  have HST := hid (TkAt.start 74 29 2 m h h0 hm)
  have HOLD := hid hm.hold
  have HMY := hid (fun (x : World) => rMayH_any m h x)
  have hy1 := mayHB_yes hmay
  simp only [hy1] at HMY
  clear hy1
  have HLK := hid (fun (x : World) => refLock_any m h.l 3 x)
  have HMO := hid (fun (x : World) (hb : Ref x B b vw s) => rAdd_at (m.at_ 3 h.l 3) 1 x B b vw s hb)
  clear hm hz hmay
  generalize m.at_ 3 h.l 3 = p at *
  generalize s.eAt p = ee at *
  generalize s.vAt p = y at *
  obtain ⟨s1, ml, mt, c, d⟩ := m
  obtain ⟨ht, hl, hs, hr, hx⟩ := h
  simp only at hsv
  subst hsv
  simp only at hrd
  subst hrd
  show Calls _ _ #[.agg #[.int .i64 s1, .int .i64 ml, .int .i64 mt, .int .i64 c, .int .i64 d], _, .agg #[.int .i64 ht, .int .i64 hl, .int .i64 10, .bool true, .int .i64 hx]] _ _
  go_enter Try.func19, Try.ntmps19
  go_upto_region 1 with fail
  refine wp_rename _ HST.out ?_
  intro W hk
  have HK := hid hk
  obtain ⟨m0, m1, m2, m3, m4, _⟩ := hk.three.map.facts
  obtain ⟨d0, d1, d2, d3, d4, df⟩ := hk.three.box.facts
  obtain ⟨o0, o1, o2, o3, o4, of⟩ := hk.three.out.facts
  clear hk HST
  go_wp2_with (first | (go_at_call 37; (with_reducible refine (HMY.out _).mono ?_); rintro e w1 ⟨rfl, hb1⟩; have HK := hid (HK.out.below hb1); clear hb1; clear m0 m1 m2 m3 m4 d0 d1 d2 d3 d4 df o0 o1 o2 o3 o4 of; obtain ⟨m0, m1, m2, m3, m4, _⟩ := HK.out.three.map.facts; obtain ⟨d0, d1, d2, d3, d4, df⟩ := HK.out.three.box.facts; obtain ⟨o0, o1, o2, o3, o4, of⟩ := HK.out.three.out.facts) | (go_at_call 12; (with_reducible refine (HLK.out _).mono ?_); rintro e w2 ⟨rfl, hb2⟩; have HK := hid (HK.out.below hb2); clear hb2; clear m0 m1 m2 m3 m4 d0 d1 d2 d3 d4 df o0 o1 o2 o3 o4 of; obtain ⟨m0, m1, m2, m3, m4, _⟩ := HK.out.three.map.facts; obtain ⟨d0, d1, d2, d3, d4, df⟩ := HK.out.three.box.facts; obtain ⟨o0, o1, o2, o3, o4, of⟩ := HK.out.three.out.facts) | (go_at_call 38; (with_reducible refine (HMO.out _ HK.out.mem).mono ?_); rintro e w4 ⟨rfl, hm4, hw4⟩; have HK := hid (HK.out.next hm4 hw4 HOLD.out); clear hm4 hw4; clear m0 m1 m2 m3 m4 d0 d1 d2 d3 d4 df o0 o1 o2 o3 o4 of; obtain ⟨m0, m1, m2, m3, m4, _⟩ := HK.out.three.map.facts; obtain ⟨d0, d1, d2, d3, d4, df⟩ := HK.out.three.box.facts; obtain ⟨o0, o1, o2, o3, o4, of⟩ := HK.out.three.out.facts))
  refine bodyPost_ret (v := (HD.mk ht hl 11 true hx).v) (by simp [results, Try.results19, go_sem, o0, o1, o2, o3, o4, of]) rfl ?_
  exact (HK.out.setS HOLD.out 11).done HOLD.out _ _ rfl rfl rfl _ _ _ _ _

set_option maxRecDepth 100000 in
set_option maxHeartbeats 4000000 in
theorem rrTake_10w (m : PM) (h : HD) (w : World) (B b : Nat) (vw : Value) (s : MS) (hm : Ref w B b vw s) (hz : m.size ≤ (s.zs.length : Int)) (hmay : mayH m h) (hsv : h.s = 10) (hrd : h.rd = false) (hy : s.vAt (m.at_ 3 h.l 3) = 0) :
    Calls Try.prog 19 #[m.v, .pointer (some ⟨b, 0, none⟩), h.v] w (HandRet 74 2 ⟨h.t, h.l, 9, h.rd, h.x⟩ (s.loaded (m.at_ 3 h.l 3)) B b vw w) := by
  have HST := hid (TkAt.start 74 29 2 m h h0 hm)
  have HOLD := hid hm.hold
  have HMY := hid (fun (x : World) => rMayH_any m h x)
  have hy1 := mayHB_yes hmay
  simp only [hy1] at HMY
  clear hy1
  have HLK := hid (fun (x : World) => refLock_any m h.l 3 x)
  have HMO := hid (fun (x : World) (hb : Ref x B b vw s) => rLoad_at (m.at_ 3 h.l 3) x B b vw s hb)
  simp only [hy] at HMO
  clear hm hz hmay hy
  generalize m.at_ 3 h.l 3 = p at *
  generalize s.eAt p = ee at *
  obtain ⟨s1, ml, mt, c, d⟩ := m
  obtain ⟨ht, hl, hs, hr, hx⟩ := h
  simp only at hsv
  subst hsv
  simp only at hrd
  subst hrd
  show Calls _ _ #[.agg #[.int .i64 s1, .int .i64 ml, .int .i64 mt, .int .i64 c, .int .i64 d], _, .agg #[.int .i64 ht, .int .i64 hl, .int .i64 10, .bool false, .int .i64 hx]] _ _
  go_enter Try.func19, Try.ntmps19
  go_upto_region 1 with fail
  refine wp_rename _ HST.out ?_
  intro W hk
  have HK := hid hk
  obtain ⟨m0, m1, m2, m3, m4, _⟩ := hk.three.map.facts
  obtain ⟨d0, d1, d2, d3, d4, df⟩ := hk.three.box.facts
  obtain ⟨o0, o1, o2, o3, o4, of⟩ := hk.three.out.facts
  clear hk HST
  go_wp2_with (first | (go_at_call 37; (with_reducible refine (HMY.out _).mono ?_); rintro e w1 ⟨rfl, hb1⟩; have HK := hid (HK.out.below hb1); clear hb1; clear m0 m1 m2 m3 m4 d0 d1 d2 d3 d4 df o0 o1 o2 o3 o4 of; obtain ⟨m0, m1, m2, m3, m4, _⟩ := HK.out.three.map.facts; obtain ⟨d0, d1, d2, d3, d4, df⟩ := HK.out.three.box.facts; obtain ⟨o0, o1, o2, o3, o4, of⟩ := HK.out.three.out.facts) | (go_at_call 12; (with_reducible refine (HLK.out _).mono ?_); rintro e w2 ⟨rfl, hb2⟩; have HK := hid (HK.out.below hb2); clear hb2; clear m0 m1 m2 m3 m4 d0 d1 d2 d3 d4 df o0 o1 o2 o3 o4 of; obtain ⟨m0, m1, m2, m3, m4, _⟩ := HK.out.three.map.facts; obtain ⟨d0, d1, d2, d3, d4, df⟩ := HK.out.three.box.facts; obtain ⟨o0, o1, o2, o3, o4, of⟩ := HK.out.three.out.facts) | (go_at_call 44; (with_reducible refine (HMO.out _ HK.out.mem).mono ?_); rintro e w4 ⟨rfl, hm4, hw4⟩; have HK := hid (HK.out.next hm4 hw4 HOLD.out); clear hm4 hw4; clear m0 m1 m2 m3 m4 d0 d1 d2 d3 d4 df o0 o1 o2 o3 o4 of; obtain ⟨m0, m1, m2, m3, m4, _⟩ := HK.out.three.map.facts; obtain ⟨d0, d1, d2, d3, d4, df⟩ := HK.out.three.box.facts; obtain ⟨o0, o1, o2, o3, o4, of⟩ := HK.out.three.out.facts))
  refine bodyPost_ret (v := (HD.mk ht hl 9 false hx).v) (by simp [results, Try.results19, go_sem, o0, o1, o2, o3, o4, of]) rfl ?_
  exact (HK.out.setS HOLD.out 9).done HOLD.out _ _ rfl rfl rfl _ _ _ _ _

set_option maxRecDepth 100000 in
set_option maxHeartbeats 4000000 in
theorem rrTake_10wn (m : PM) (h : HD) (w : World) (B b : Nat) (vw : Value) (s : MS) (hm : Ref w B b vw s) (hz : m.size ≤ (s.zs.length : Int)) (hmay : mayH m h) (hsv : h.s = 10) (hrd : h.rd = false) (hy : ¬ s.vAt (m.at_ 3 h.l 3) = 0) :
    Calls Try.prog 19 #[m.v, .pointer (some ⟨b, 0, none⟩), h.v] w (HandRet 74 2 h (s.loaded (m.at_ 3 h.l 3)) B b vw w) := by
  have HST := hid (TkAt.start 74 29 2 m h h0 hm)
  have HOLD := hid hm.hold
  have HMY := hid (fun (x : World) => rMayH_any m h x)
  have hy1 := mayHB_yes hmay
  simp only [hy1] at HMY
  clear hy1
  have HLK := hid (fun (x : World) => refLock_any m h.l 3 x)
  have HMO := hid (fun (x : World) (hb : Ref x B b vw s) => rLoad_at (m.at_ 3 h.l 3) x B b vw s hb)
  clear hm hz hmay
  generalize m.at_ 3 h.l 3 = p at *
  generalize s.eAt p = ee at *
  generalize s.vAt p = y at *
  obtain ⟨s1, ml, mt, c, d⟩ := m
  obtain ⟨ht, hl, hs, hr, hx⟩ := h
  simp only at hsv
  subst hsv
  simp only at hrd
  subst hrd
  show Calls _ _ #[.agg #[.int .i64 s1, .int .i64 ml, .int .i64 mt, .int .i64 c, .int .i64 d], _, .agg #[.int .i64 ht, .int .i64 hl, .int .i64 10, .bool false, .int .i64 hx]] _ _
  go_enter Try.func19, Try.ntmps19
  go_upto_region 1 with fail
  refine wp_rename _ HST.out ?_
  intro W hk
  have HK := hid hk
  obtain ⟨m0, m1, m2, m3, m4, _⟩ := hk.three.map.facts
  obtain ⟨d0, d1, d2, d3, d4, df⟩ := hk.three.box.facts
  obtain ⟨o0, o1, o2, o3, o4, of⟩ := hk.three.out.facts
  clear hk HST
  go_wp2_with (first | (go_at_call 37; (with_reducible refine (HMY.out _).mono ?_); rintro e w1 ⟨rfl, hb1⟩; have HK := hid (HK.out.below hb1); clear hb1; clear m0 m1 m2 m3 m4 d0 d1 d2 d3 d4 df o0 o1 o2 o3 o4 of; obtain ⟨m0, m1, m2, m3, m4, _⟩ := HK.out.three.map.facts; obtain ⟨d0, d1, d2, d3, d4, df⟩ := HK.out.three.box.facts; obtain ⟨o0, o1, o2, o3, o4, of⟩ := HK.out.three.out.facts) | (go_at_call 12; (with_reducible refine (HLK.out _).mono ?_); rintro e w2 ⟨rfl, hb2⟩; have HK := hid (HK.out.below hb2); clear hb2; clear m0 m1 m2 m3 m4 d0 d1 d2 d3 d4 df o0 o1 o2 o3 o4 of; obtain ⟨m0, m1, m2, m3, m4, _⟩ := HK.out.three.map.facts; obtain ⟨d0, d1, d2, d3, d4, df⟩ := HK.out.three.box.facts; obtain ⟨o0, o1, o2, o3, o4, of⟩ := HK.out.three.out.facts) | (go_at_call 44; (with_reducible refine (HMO.out _ HK.out.mem).mono ?_); rintro e w4 ⟨rfl, hm4, hw4⟩; have HK := hid (HK.out.next hm4 hw4 HOLD.out); clear hm4 hw4; clear m0 m1 m2 m3 m4 d0 d1 d2 d3 d4 df o0 o1 o2 o3 o4 of; obtain ⟨m0, m1, m2, m3, m4, _⟩ := HK.out.three.map.facts; obtain ⟨d0, d1, d2, d3, d4, df⟩ := HK.out.three.box.facts; obtain ⟨o0, o1, o2, o3, o4, of⟩ := HK.out.three.out.facts))
  refine bodyPost_ret (v := (HD.mk ht hl 10 false hx).v) (by simp [results, Try.results19, go_sem, o0, o1, o2, o3, o4, of]) rfl ?_
  exact HK.out.done HOLD.out _ _ rfl rfl rfl _ _ _ _ _

set_option maxRecDepth 100000 in
set_option maxHeartbeats 4000000 in
theorem rrTake_11r (m : PM) (h : HD) (w : World) (B b : Nat) (vw : Value) (s : MS) (hm : Ref w B b vw s) (hz : m.size ≤ (s.zs.length : Int)) (hmay : mayH m h) (hsv : h.s = 11) (hrd : h.rd = true) :
    Calls Try.prog 19 #[m.v, .pointer (some ⟨b, 0, none⟩), h.v] w (HandRet 74 2 (rwLeave m s h).1 (rwLeave m s h).2 B b vw w) := by
  have HST := hid (TkAt.start 74 29 2 m h h0 hm)
  have HOLD := hid hm.hold
  have HMY := hid (fun (x : World) => rMayH_any m h x)
  have hy1 := mayHB_yes hmay
  simp only [hy1] at HMY
  clear hy1
  have HLK := hid (fun (x : World) => refLock_any m h.l 3 x)
  have hdr := mcDrop_range (m := m) (s := s) (h := ⟨h.t, h.l, 9, h.rd, h.x⟩) (by simp)
  have HDR := hid (fun (x : World) (hb : Ref x B b vw s) => rmDrop_any m ⟨h.t, h.l, 9, h.rd, h.x⟩ x B b vw s hb hz)
  have HEQ : rwLeave m s h = (outH (mcDrop m s ⟨h.t, h.l, 9, h.rd, h.x⟩).1, (mcDrop m s ⟨h.t, h.l, 9, h.rd, h.x⟩).2) := by unfold rwLeave inH; rw [hsv]; rfl
  rw [HEQ]
  clear HEQ
  dsimp only
  clear hm hz hmay
  generalize (mcDrop m s ⟨h.t, h.l, 9, h.rd, h.x⟩).2 = s2 at *
  generalize (mcDrop m s ⟨h.t, h.l, 9, h.rd, h.x⟩).1 = g at *
  generalize m.at_ 3 h.l 3 = p at *
  obtain ⟨gt, gl, gs, gr, gx⟩ := g
  try simp only at hdr
  obtain ⟨s1, ml, mt, c, d⟩ := m
  obtain ⟨ht, hl, hs, hr, hx⟩ := h
  simp only at hsv
  subst hsv
  simp only at hrd
  subst hrd
  show Calls _ _ #[.agg #[.int .i64 s1, .int .i64 ml, .int .i64 mt, .int .i64 c, .int .i64 d], _, .agg #[.int .i64 ht, .int .i64 hl, .int .i64 11, .bool true, .int .i64 hx]] _ _
  go_enter Try.func19, Try.ntmps19
  go_upto_region 1 with fail
  refine wp_rename _ HST.out ?_
  intro W hk
  have HK := hid hk
  obtain ⟨m0, m1, m2, m3, m4, _⟩ := hk.three.map.facts
  obtain ⟨d0, d1, d2, d3, d4, df⟩ := hk.three.box.facts
  obtain ⟨o0, o1, o2, o3, o4, of⟩ := hk.three.out.facts
  clear hk HST
  go_upto_region 16 with (first | (go_at_call 37; (with_reducible refine (HMY.out _).mono ?_); rintro e w1 ⟨rfl, hb1⟩; have HK := hid (HK.out.below hb1); clear hb1; clear m0 m1 m2 m3 m4 d0 d1 d2 d3 d4 df o0 o1 o2 o3 o4 of; obtain ⟨m0, m1, m2, m3, m4, _⟩ := HK.out.three.map.facts; obtain ⟨d0, d1, d2, d3, d4, df⟩ := HK.out.three.box.facts; obtain ⟨o0, o1, o2, o3, o4, of⟩ := HK.out.three.out.facts) | (go_at_call 12; (with_reducible refine (HLK.out _).mono ?_); rintro e w2 ⟨rfl, hb2⟩; have HK := hid (HK.out.below hb2); clear hb2; clear m0 m1 m2 m3 m4 d0 d1 d2 d3 d4 df o0 o1 o2 o3 o4 of; obtain ⟨m0, m1, m2, m3, m4, _⟩ := HK.out.three.map.facts; obtain ⟨d0, d1, d2, d3, d4, df⟩ := HK.out.three.box.facts; obtain ⟨o0, o1, o2, o3, o4, of⟩ := HK.out.three.out.facts))
  have hc16 : (w2.alloc (.cells #[.int .i64 9, .int .i64 7, .int .i64 6, .int .i64 8] 3)).cell? ⟨w2.heap.size, 0, none⟩ = some (.int .i64 9) := cell_of_blk (heap_alloc_new _ _) 0
  obtain ⟨_, _, hc17, _, _, hc18⟩ := (HK.out.below (bnew (bid w2) (.cells #[.int .i64 9, .int .i64 7, .int .i64 6, .int .i64 8] 3))).three.box.facts
  clear d0 d1 d2 d3 d4 df
  go_upto_region 17 with fail
  refine wp_rename (fun W' => TkAt 74 29 2 w ⟨s1, ml, mt, c, d⟩ ⟨ht, hl, 9, true, hx⟩ h0 B b vw s W') ((HK.out.below (bnew (bid _) _)).setS HOLD.out 9) ?_
  clear HK HMY HLK m0 m1 m2 m3 m4 hc16 hc17 hc18 o0 o1 o2 o3 o4 of
  intro W2 hk
  have HK := hid hk
  obtain ⟨m0, m1, m2, m3, m4, _⟩ := HK.out.three.map.facts
  obtain ⟨d0, d1, d2, d3, d4, df⟩ := HK.out.three.box.facts
  obtain ⟨o0, o1, o2, o3, o4, of⟩ := HK.out.three.out.facts
  clear hk
  go_upto_region 18 with (go_at_call 36; (with_reducible refine (HDR.out _ HK.out.mem).mono ?_); rintro e w3 ⟨rfl, hm3, hw3⟩; have HK := hid (HK.out.next hm3 hw3 HOLD.out); clear hm3 hw3; clear m0 m1 m2 m3 m4 d0 d1 d2 d3 d4 df o0 o1 o2 o3 o4 of; obtain ⟨m0, m1, m2, m3, m4, _⟩ := HK.out.three.map.facts; obtain ⟨d0, d1, d2, d3, d4, df⟩ := HK.out.three.box.facts; obtain ⟨o0, o1, o2, o3, o4, of⟩ := HK.out.three.out.facts)
  refine wp_rename (fun W' => TkAt 74 29 2 w ⟨s1, ml, mt, c, d⟩ ⟨gt, gl, gs, gr, gx⟩ h0 B b vw s2 W') (HK.out.setH HOLD.out ⟨gt, gl, gs, gr, gx⟩) ?_
  clear HK HDR m0 m1 m2 m3 m4 d0 d1 d2 d3 d4 df o0 o1 o2 o3 o4 of
  intro W4 hk
  have HK := hid hk
  obtain ⟨d0, d1, d2, d3, d4, df⟩ := HK.out.three.box.facts
  obtain ⟨o0, o1, o2, o3, o4, of⟩ := HK.out.three.out.facts
  clear hk
  rcases hdr with rfl | rfl | rfl | rfl | rfl
  · go_wp2_with fail
    refine bodyPost_ret (v := (HD.mk gt gl 9 gr gx).v) (by simp [results, Try.results19, go_sem, o0, o1, o2, o3, o4, of]) rfl ?_
    exact (HK.out.setS HOLD.out 9).done HOLD.out _ _ rfl rfl rfl _ _ _ _ _
  · go_wp2_with fail
    refine bodyPost_ret (v := (HD.mk gt gl 11 gr gx).v) (by simp [results, Try.results19, go_sem, o0, o1, o2, o3, o4, of]) rfl ?_
    exact (HK.out.setS HOLD.out 11).done HOLD.out _ _ rfl rfl rfl _ _ _ _ _
  · go_wp2_with fail
    refine bodyPost_ret (v := (HD.mk gt gl 12 gr gx).v) (by simp [results, Try.results19, go_sem, o0, o1, o2, o3, o4, of]) rfl ?_
    exact (HK.out.setS HOLD.out 12).done HOLD.out _ _ rfl rfl rfl _ _ _ _ _
  · go_wp2_with fail
    refine bodyPost_ret (v := (HD.mk gt gl 13 gr gx).v) (by simp [results, Try.results19, go_sem, o0, o1, o2, o3, o4, of]) rfl ?_
    exact (HK.out.setS HOLD.out 13).done HOLD.out _ _ rfl rfl rfl _ _ _ _ _
  · go_wp2_with fail
    refine bodyPost_ret (v := (HD.mk gt gl 14 gr gx).v) (by simp [results, Try.results19, go_sem, o0, o1, o2, o3, o4, of]) rfl ?_
    exact (HK.out.setS HOLD.out 14).done HOLD.out _ _ rfl rfl rfl _ _ _ _ _

set_option maxRecDepth 100000 in
set_option maxHeartbeats 4000000 in
theorem rrTake_11w (m : PM) (h : HD) (w : World) (B b : Nat) (vw : Value) (s : MS) (hm : Ref w B b vw s) (hz : m.size ≤ (s.zs.length : Int)) (hmay : mayH m h) (hsv : h.s = 11) (hrd : h.rd = false) :
    Calls Try.prog 19 #[m.v, .pointer (some ⟨b, 0, none⟩), h.v] w (HandRet 74 2 h s B b vw w) := by
  have HST := hid (TkAt.start 74 29 2 m h h0 hm)
  have HOLD := hid hm.hold
  have HMY := hid (fun (x : World) => rMayH_any m h x)
  have hy1 := mayHB_yes hmay
  simp only [hy1] at HMY
  clear hy1
  have HLK := hid (fun (x : World) => refLock_any m h.l 3 x)
  clear hm hz hmay
  generalize m.at_ 3 h.l 3 = p at *
  obtain ⟨s1, ml, mt, c, d⟩ := m
  obtain ⟨ht, hl, hs, hr, hx⟩ := h
  simp only at hsv
  subst hsv
  simp only at hrd
  subst hrd
  show Calls _ _ #[.agg #[.int .i64 s1, .int .i64 ml, .int .i64 mt, .int .i64 c, .int .i64 d], _, .agg #[.int .i64 ht, .int .i64 hl, .int .i64 11, .bool false, .int .i64 hx]] _ _
  go_enter Try.func19, Try.ntmps19
  go_upto_region 1 with fail
  refine wp_rename _ HST.out ?_
  intro W hk
  have HK := hid hk
  obtain ⟨m0, m1, m2, m3, m4, _⟩ := hk.three.map.facts
  obtain ⟨d0, d1, d2, d3, d4, df⟩ := hk.three.box.facts
  obtain ⟨o0, o1, o2, o3, o4, of⟩ := hk.three.out.facts
  clear hk HST
  go_wp2_with (first | (go_at_call 37; (with_reducible refine (HMY.out _).mono ?_); rintro e w1 ⟨rfl, hb1⟩; have HK := hid (HK.out.below hb1); clear hb1; clear m0 m1 m2 m3 m4 d0 d1 d2 d3 d4 df o0 o1 o2 o3 o4 of; obtain ⟨m0, m1, m2, m3, m4, _⟩ := HK.out.three.map.facts; obtain ⟨d0, d1, d2, d3, d4, df⟩ := HK.out.three.box.facts; obtain ⟨o0, o1, o2, o3, o4, of⟩ := HK.out.three.out.facts) | (go_at_call 12; (with_reducible refine (HLK.out _).mono ?_); rintro e w2 ⟨rfl, hb2⟩; have HK := hid (HK.out.below hb2); clear hb2; clear m0 m1 m2 m3 m4 d0 d1 d2 d3 d4 df o0 o1 o2 o3 o4 of; obtain ⟨m0, m1, m2, m3, m4, _⟩ := HK.out.three.map.facts; obtain ⟨d0, d1, d2, d3, d4, df⟩ := HK.out.three.box.facts; obtain ⟨o0, o1, o2, o3, o4, of⟩ := HK.out.three.out.facts))
  refine bodyPost_ret (v := (HD.mk ht hl 11 false hx).v) (by simp [results, Try.results19, go_sem, o0, o1, o2, o3, o4, of]) rfl ?_
  exact HK.out.done HOLD.out _ _ rfl rfl rfl _ _ _ _ _

set_option maxRecDepth 100000 in
set_option maxHeartbeats 4000000 in
theorem rrTake_12r (m : PM) (h : HD) (w : World) (B b : Nat) (vw : Value) (s : MS) (hm : Ref w B b vw s) (hz : m.size ≤ (s.zs.length : Int)) (hmay : mayH m h) (hsv : h.s = 12) (hrd : h.rd = true) :
    Calls Try.prog 19 #[m.v, .pointer (some ⟨b, 0, none⟩), h.v] w (HandRet 74 2 (rwLeave m s h).1 (rwLeave m s h).2 B b vw w) := by
  have HST := hid (TkAt.start 74 29 2 m h h0 hm)
  have HOLD := hid hm.hold
  have HMY := hid (fun (x : World) => rMayH_any m h x)
  have hy1 := mayHB_yes hmay
  simp only [hy1] at HMY
  clear hy1
  have HLK := hid (fun (x : World) => refLock_any m h.l 3 x)
  have hdr := mcDrop_range (m := m) (s := s) (h := ⟨h.t, h.l, 7, h.rd, h.x⟩) (by simp)
  have HDR := hid (fun (x : World) (hb : Ref x B b vw s) => rmDrop_any m ⟨h.t, h.l, 7, h.rd, h.x⟩ x B b vw s hb hz)
  have HEQ : rwLeave m s h = (outH (mcDrop m s ⟨h.t, h.l, 7, h.rd, h.x⟩).1, (mcDrop m s ⟨h.t, h.l, 7, h.rd, h.x⟩).2) := by unfold rwLeave inH; rw [hsv]; rfl
  rw [HEQ]
  clear HEQ
  dsimp only
  clear hm hz hmay
  generalize (mcDrop m s ⟨h.t, h.l, 7, h.rd, h.x⟩).2 = s2 at *
  generalize (mcDrop m s ⟨h.t, h.l, 7, h.rd, h.x⟩).1 = g at *
  generalize m.at_ 3 h.l 3 = p at *
  obtain ⟨gt, gl, gs, gr, gx⟩ := g
  try simp only at hdr
  obtain ⟨s1, ml, mt, c, d⟩ := m
  obtain ⟨ht, hl, hs, hr, hx⟩ := h
  simp only at hsv
  subst hsv
  simp only at hrd
  subst hrd
  show Calls _ _ #[.agg #[.int .i64 s1, .int .i64 ml, .int .i64 mt, .int .i64 c, .int .i64 d], _, .agg #[.int .i64 ht, .int .i64 hl, .int .i64 12, .bool true, .int .i64 hx]] _ _
  go_enter Try.func19, Try.ntmps19
  go_upto_region 1 with fail
  refine wp_rename _ HST.out ?_
  intro W hk
  have HK := hid hk
  obtain ⟨m0, m1, m2, m3, m4, _⟩ := hk.three.map.facts
  obtain ⟨d0, d1, d2, d3, d4, df⟩ := hk.three.box.facts
  obtain ⟨o0, o1, o2, o3, o4, of⟩ := hk.three.out.facts
  clear hk HST
  go_upto_region 16 with (first | (go_at_call 37; (with_reducible refine (HMY.out _).mono ?_); rintro e w1 ⟨rfl, hb1⟩; have HK := hid (HK.out.below hb1); clear hb1; clear m0 m1 m2 m3 m4 d0 d1 d2 d3 d4 df o0 o1 o2 o3 o4 of; obtain ⟨m0, m1, m2, m3, m4, _⟩ := HK.out.three.map.facts; obtain ⟨d0, d1, d2, d3, d4, df⟩ := HK.out.three.box.facts; obtain ⟨o0, o1, o2, o3, o4, of⟩ := HK.out.three.out.facts) | (go_at_call 12; (with_reducible refine (HLK.out _).mono ?_); rintro e w2 ⟨rfl, hb2⟩; have HK := hid (HK.out.below hb2); clear hb2; clear m0 m1 m2 m3 m4 d0 d1 d2 d3 d4 df o0 o1 o2 o3 o4 of; obtain ⟨m0, m1, m2, m3, m4, _⟩ := HK.out.three.map.facts; obtain ⟨d0, d1, d2, d3, d4, df⟩ := HK.out.three.box.facts; obtain ⟨o0, o1, o2, o3, o4, of⟩ := HK.out.three.out.facts))
  have hc16 : (w2.alloc (.cells #[.int .i64 9, .int .i64 7, .int .i64 6, .int .i64 8] 3)).cell? ⟨w2.heap.size, 1, none⟩ = some (.int .i64 7) := cell_of_blk (heap_alloc_new _ _) 1
  obtain ⟨_, _, hc17, _, _, hc18⟩ := (HK.out.below (bnew (bid w2) (.cells #[.int .i64 9, .int .i64 7, .int .i64 6, .int .i64 8] 3))).three.box.facts
  clear d0 d1 d2 d3 d4 df
  go_upto_region 17 with fail
  refine wp_rename (fun W' => TkAt 74 29 2 w ⟨s1, ml, mt, c, d⟩ ⟨ht, hl, 7, true, hx⟩ h0 B b vw s W') ((HK.out.below (bnew (bid _) _)).setS HOLD.out 7) ?_
  clear HK HMY HLK m0 m1 m2 m3 m4 hc16 hc17 hc18 o0 o1 o2 o3 o4 of
  intro W2 hk
  have HK := hid hk
  obtain ⟨m0, m1, m2, m3, m4, _⟩ := HK.out.three.map.facts
  obtain ⟨d0, d1, d2, d3, d4, df⟩ := HK.out.three.box.facts
  obtain ⟨o0, o1, o2, o3, o4, of⟩ := HK.out.three.out.facts
  clear hk
  go_upto_region 18 with (go_at_call 36; (with_reducible refine (HDR.out _ HK.out.mem).mono ?_); rintro e w3 ⟨rfl, hm3, hw3⟩; have HK := hid (HK.out.next hm3 hw3 HOLD.out); clear hm3 hw3; clear m0 m1 m2 m3 m4 d0 d1 d2 d3 d4 df o0 o1 o2 o3 o4 of; obtain ⟨m0, m1, m2, m3, m4, _⟩ := HK.out.three.map.facts; obtain ⟨d0, d1, d2, d3, d4, df⟩ := HK.out.three.box.facts; obtain ⟨o0, o1, o2, o3, o4, of⟩ := HK.out.three.out.facts)
  refine wp_rename (fun W' => TkAt 74 29 2 w ⟨s1, ml, mt, c, d⟩ ⟨gt, gl, gs, gr, gx⟩ h0 B b vw s2 W') (HK.out.setH HOLD.out ⟨gt, gl, gs, gr, gx⟩) ?_
  clear HK HDR m0 m1 m2 m3 m4 d0 d1 d2 d3 d4 df o0 o1 o2 o3 o4 of
  intro W4 hk
  have HK := hid hk
  obtain ⟨d0, d1, d2, d3, d4, df⟩ := HK.out.three.box.facts
  obtain ⟨o0, o1, o2, o3, o4, of⟩ := HK.out.three.out.facts
  clear hk
  rcases hdr with rfl | rfl | rfl | rfl | rfl
  · go_wp2_with fail
    refine bodyPost_ret (v := (HD.mk gt gl 9 gr gx).v) (by simp [results, Try.results19, go_sem, o0, o1, o2, o3, o4, of]) rfl ?_
    exact (HK.out.setS HOLD.out 9).done HOLD.out _ _ rfl rfl rfl _ _ _ _ _
  · go_wp2_with fail
    refine bodyPost_ret (v := (HD.mk gt gl 11 gr gx).v) (by simp [results, Try.results19, go_sem, o0, o1, o2, o3, o4, of]) rfl ?_
    exact (HK.out.setS HOLD.out 11).done HOLD.out _ _ rfl rfl rfl _ _ _ _ _
  · go_wp2_with fail
    refine bodyPost_ret (v := (HD.mk gt gl 12 gr gx).v) (by simp [results, Try.results19, go_sem, o0, o1, o2, o3, o4, of]) rfl ?_
    exact (HK.out.setS HOLD.out 12).done HOLD.out _ _ rfl rfl rfl _ _ _ _ _
  · go_wp2_with fail
    refine bodyPost_ret (v := (HD.mk gt gl 13 gr gx).v) (by simp [results, Try.results19, go_sem, o0, o1, o2, o3, o4, of]) rfl ?_
    exact (HK.out.setS HOLD.out 13).done HOLD.out _ _ rfl rfl rfl _ _ _ _ _
  · go_wp2_with fail
    refine bodyPost_ret (v := (HD.mk gt gl 14 gr gx).v) (by simp [results, Try.results19, go_sem, o0, o1, o2, o3, o4, of]) rfl ?_
    exact (HK.out.setS HOLD.out 14).done HOLD.out _ _ rfl rfl rfl _ _ _ _ _

set_option maxRecDepth 100000 in
set_option maxHeartbeats 4000000 in
theorem rrTake_12w (m : PM) (h : HD) (w : World) (B b : Nat) (vw : Value) (s : MS) (hm : Ref w B b vw s) (hz : m.size ≤ (s.zs.length : Int)) (hmay : mayH m h) (hsv : h.s = 12) (hrd : h.rd = false) :
    Calls Try.prog 19 #[m.v, .pointer (some ⟨b, 0, none⟩), h.v] w (HandRet 74 2 h s B b vw w) := by
  have HST := hid (TkAt.start 74 29 2 m h h0 hm)
  have HOLD := hid hm.hold
  have HMY := hid (fun (x : World) => rMayH_any m h x)
  have hy1 := mayHB_yes hmay
  simp only [hy1] at HMY
  clear hy1
  have HLK := hid (fun (x : World) => refLock_any m h.l 3 x)
  clear hm hz hmay
  generalize m.at_ 3 h.l 3 = p at *
  obtain ⟨s1, ml, mt, c, d⟩ := m
  obtain ⟨ht, hl, hs, hr, hx⟩ := h
  simp only at hsv
  subst hsv
  simp only at hrd
  subst hrd
  show Calls _ _ #[.agg #[.int .i64 s1, .int .i64 ml, .int .i64 mt, .int .i64 c, .int .i64 d], _, .agg #[.int .i64 ht, .int .i64 hl, .int .i64 12, .bool false, .int .i64 hx]] _ _
  go_enter Try.func19, Try.ntmps19
  go_upto_region 1 with fail
  refine wp_rename _ HST.out ?_
  intro W hk
  have HK := hid hk
  obtain ⟨m0, m1, m2, m3, m4, _⟩ := hk.three.map.facts
  obtain ⟨d0, d1, d2, d3, d4, df⟩ := hk.three.box.facts
  obtain ⟨o0, o1, o2, o3, o4, of⟩ := hk.three.out.facts
  clear hk HST
  go_wp2_with (first | (go_at_call 37; (with_reducible refine (HMY.out _).mono ?_); rintro e w1 ⟨rfl, hb1⟩; have HK := hid (HK.out.below hb1); clear hb1; clear m0 m1 m2 m3 m4 d0 d1 d2 d3 d4 df o0 o1 o2 o3 o4 of; obtain ⟨m0, m1, m2, m3, m4, _⟩ := HK.out.three.map.facts; obtain ⟨d0, d1, d2, d3, d4, df⟩ := HK.out.three.box.facts; obtain ⟨o0, o1, o2, o3, o4, of⟩ := HK.out.three.out.facts) | (go_at_call 12; (with_reducible refine (HLK.out _).mono ?_); rintro e w2 ⟨rfl, hb2⟩; have HK := hid (HK.out.below hb2); clear hb2; clear m0 m1 m2 m3 m4 d0 d1 d2 d3 d4 df o0 o1 o2 o3 o4 of; obtain ⟨m0, m1, m2, m3, m4, _⟩ := HK.out.three.map.facts; obtain ⟨d0, d1, d2, d3, d4, df⟩ := HK.out.three.box.facts; obtain ⟨o0, o1, o2, o3, o4, of⟩ := HK.out.three.out.facts))
  refine bodyPost_ret (v := (HD.mk ht hl 12 false hx).v) (by simp [results, Try.results19, go_sem, o0, o1, o2, o3, o4, of]) rfl ?_
  exact HK.out.done HOLD.out _ _ rfl rfl rfl _ _ _ _ _

set_option maxRecDepth 100000 in
set_option maxHeartbeats 4000000 in
theorem rrTake_13r (m : PM) (h : HD) (w : World) (B b : Nat) (vw : Value) (s : MS) (hm : Ref w B b vw s) (hz : m.size ≤ (s.zs.length : Int)) (hmay : mayH m h) (hsv : h.s = 13) (hrd : h.rd = true) :
    Calls Try.prog 19 #[m.v, .pointer (some ⟨b, 0, none⟩), h.v] w (HandRet 74 2 (rwLeave m s h).1 (rwLeave m s h).2 B b vw w) := by
  have HST := hid (TkAt.start 74 29 2 m h h0 hm)
  have HOLD := hid hm.hold
  have HMY := hid (fun (x : World) => rMayH_any m h x)
  have hy1 := mayHB_yes hmay
  simp only [hy1] at HMY
  clear hy1
  have HLK := hid (fun (x : World) => refLock_any m h.l 3 x)
  have hdr := mcDrop_range (m := m) (s := s) (h := ⟨h.t, h.l, 6, h.rd, h.x⟩) (by simp)
  have HDR := hid (fun (x : World) (hb : Ref x B b vw s) => rmDrop_any m ⟨h.t, h.l, 6, h.rd, h.x⟩ x B b vw s hb hz)
  have HEQ : rwLeave m s h = (outH (mcDrop m s ⟨h.t, h.l, 6, h.rd, h.x⟩).1, (mcDrop m s ⟨h.t, h.l, 6, h.rd, h.x⟩).2) := by unfold rwLeave inH; rw [hsv]; rfl
  rw [HEQ]
  clear HEQ
  dsimp only
  clear hm hz hmay
  generalize (mcDrop m s ⟨h.t, h.l, 6, h.rd, h.x⟩).2 = s2 at *
  generalize (mcDrop m s ⟨h.t, h.l, 6, h.rd, h.x⟩).1 = g at *
  generalize m.at_ 3 h.l 3 = p at *
  obtain ⟨gt, gl, gs, gr, gx⟩ := g
  try simp only at hdr
  obtain ⟨s1, ml, mt, c, d⟩ := m
  obtain ⟨ht, hl, hs, hr, hx⟩ := h
  simp only at hsv
  subst hsv
  simp only at hrd
  subst hrd
  show Calls _ _ #[.agg #[.int .i64 s1, .int .i64 ml, .int .i64 mt, .int .i64 c, .int .i64 d], _, .agg #[.int .i64 ht, .int .i64 hl, .int .i64 13, .bool true, .int .i64 hx]] _ _
  go_enter Try.func19, Try.ntmps19
  go_upto_region 1 with fail
  refine wp_rename _ HST.out ?_
  intro W hk
  have HK := hid hk
  obtain ⟨m0, m1, m2, m3, m4, _⟩ := hk.three.map.facts
  obtain ⟨d0, d1, d2, d3, d4, df⟩ := hk.three.box.facts
  obtain ⟨o0, o1, o2, o3, o4, of⟩ := hk.three.out.facts
  clear hk HST
  go_upto_region 16 with (first | (go_at_call 37; (with_reducible refine (HMY.out _).mono ?_); rintro e w1 ⟨rfl, hb1⟩; have HK := hid (HK.out.below hb1); clear hb1; clear m0 m1 m2 m3 m4 d0 d1 d2 d3 d4 df o0 o1 o2 o3 o4 of; obtain ⟨m0, m1, m2, m3, m4, _⟩ := HK.out.three.map.facts; obtain ⟨d0, d1, d2, d3, d4, df⟩ := HK.out.three.box.facts; obtain ⟨o0, o1, o2, o3, o4, of⟩ := HK.out.three.out.facts) | (go_at_call 12; (with_reducible refine (HLK.out _).mono ?_); rintro e w2 ⟨rfl, hb2⟩; have HK := hid (HK.out.below hb2); clear hb2; clear m0 m1 m2 m3 m4 d0 d1 d2 d3 d4 df o0 o1 o2 o3 o4 of; obtain ⟨m0, m1, m2, m3, m4, _⟩ := HK.out.three.map.facts; obtain ⟨d0, d1, d2, d3, d4, df⟩ := HK.out.three.box.facts; obtain ⟨o0, o1, o2, o3, o4, of⟩ := HK.out.three.out.facts))
  have hc16 : (w2.alloc (.cells #[.int .i64 9, .int .i64 7, .int .i64 6, .int .i64 8] 3)).cell? ⟨w2.heap.size, 2, none⟩ = some (.int .i64 6) := cell_of_blk (heap_alloc_new _ _) 2
  obtain ⟨_, _, hc17, _, _, hc18⟩ := (HK.out.below (bnew (bid w2) (.cells #[.int .i64 9, .int .i64 7, .int .i64 6, .int .i64 8] 3))).three.box.facts
  clear d0 d1 d2 d3 d4 df
  go_upto_region 17 with fail
  refine wp_rename (fun W' => TkAt 74 29 2 w ⟨s1, ml, mt, c, d⟩ ⟨ht, hl, 6, true, hx⟩ h0 B b vw s W') ((HK.out.below (bnew (bid _) _)).setS HOLD.out 6) ?_
  clear HK HMY HLK m0 m1 m2 m3 m4 hc16 hc17 hc18 o0 o1 o2 o3 o4 of
  intro W2 hk
  have HK := hid hk
  obtain ⟨m0, m1, m2, m3, m4, _⟩ := HK.out.three.map.facts
  obtain ⟨d0, d1, d2, d3, d4, df⟩ := HK.out.three.box.facts
  obtain ⟨o0, o1, o2, o3, o4, of⟩ := HK.out.three.out.facts
  clear hk
  go_upto_region 18 with (go_at_call 36; (with_reducible refine (HDR.out _ HK.out.mem).mono ?_); rintro e w3 ⟨rfl, hm3, hw3⟩; have HK := hid (HK.out.next hm3 hw3 HOLD.out); clear hm3 hw3; clear m0 m1 m2 m3 m4 d0 d1 d2 d3 d4 df o0 o1 o2 o3 o4 of; obtain ⟨m0, m1, m2, m3, m4, _⟩ := HK.out.three.map.facts; obtain ⟨d0, d1, d2, d3, d4, df⟩ := HK.out.three.box.facts; obtain ⟨o0, o1, o2, o3, o4, of⟩ := HK.out.three.out.facts)
  refine wp_rename (fun W' => TkAt 74 29 2 w ⟨s1, ml, mt, c, d⟩ ⟨gt, gl, gs, gr, gx⟩ h0 B b vw s2 W') (HK.out.setH HOLD.out ⟨gt, gl, gs, gr, gx⟩) ?_
  clear HK HDR m0 m1 m2 m3 m4 d0 d1 d2 d3 d4 df o0 o1 o2 o3 o4 of
  intro W4 hk
  have HK := hid hk
  obtain ⟨d0, d1, d2, d3, d4, df⟩ := HK.out.three.box.facts
  obtain ⟨o0, o1, o2, o3, o4, of⟩ := HK.out.three.out.facts
  clear hk
  rcases hdr with rfl | rfl | rfl | rfl | rfl
  · go_wp2_with fail
    refine bodyPost_ret (v := (HD.mk gt gl 9 gr gx).v) (by simp [results, Try.results19, go_sem, o0, o1, o2, o3, o4, of]) rfl ?_
    exact (HK.out.setS HOLD.out 9).done HOLD.out _ _ rfl rfl rfl _ _ _ _ _
  · go_wp2_with fail
    refine bodyPost_ret (v := (HD.mk gt gl 11 gr gx).v) (by simp [results, Try.results19, go_sem, o0, o1, o2, o3, o4, of]) rfl ?_
    exact (HK.out.setS HOLD.out 11).done HOLD.out _ _ rfl rfl rfl _ _ _ _ _
  · go_wp2_with fail
    refine bodyPost_ret (v := (HD.mk gt gl 12 gr gx).v) (by simp [results, Try.results19, go_sem, o0, o1, o2, o3, o4, of]) rfl ?_
    exact (HK.out.setS HOLD.out 12).done HOLD.out _ _ rfl rfl rfl _ _ _ _ _
  · go_wp2_with fail
    refine bodyPost_ret (v := (HD.mk gt gl 13 gr gx).v) (by simp [results, Try.results19, go_sem, o0, o1, o2, o3, o4, of]) rfl ?_
    exact (HK.out.setS HOLD.out 13).done HOLD.out _ _ rfl rfl rfl _ _ _ _ _
  · go_wp2_with fail
    refine bodyPost_ret (v := (HD.mk gt gl 14 gr gx).v) (by simp [results, Try.results19, go_sem, o0, o1, o2, o3, o4, of]) rfl ?_
    exact (HK.out.setS HOLD.out 14).done HOLD.out _ _ rfl rfl rfl _ _ _ _ _

set_option maxRecDepth 100000 in
set_option maxHeartbeats 4000000 in
theorem rrTake_13w (m : PM) (h : HD) (w : World) (B b : Nat) (vw : Value) (s : MS) (hm : Ref w B b vw s) (hz : m.size ≤ (s.zs.length : Int)) (hmay : mayH m h) (hsv : h.s = 13) (hrd : h.rd = false) :
    Calls Try.prog 19 #[m.v, .pointer (some ⟨b, 0, none⟩), h.v] w (HandRet 74 2 h s B b vw w) := by
  have HST := hid (TkAt.start 74 29 2 m h h0 hm)
  have HOLD := hid hm.hold
  have HMY := hid (fun (x : World) => rMayH_any m h x)
  have hy1 := mayHB_yes hmay
  simp only [hy1] at HMY
  clear hy1
  have HLK := hid (fun (x : World) => refLock_any m h.l 3 x)
  clear hm hz hmay
  generalize m.at_ 3 h.l 3 = p at *
  obtain ⟨s1, ml, mt, c, d⟩ := m
  obtain ⟨ht, hl, hs, hr, hx⟩ := h
  simp only at hsv
  subst hsv
  simp only at hrd
  subst hrd
  show Calls _ _ #[.agg #[.int .i64 s1, .int .i64 ml, .int .i64 mt, .int .i64 c, .int .i64 d], _, .agg #[.int .i64 ht, .int .i64 hl, .int .i64 13, .bool false, .int .i64 hx]] _ _
  go_enter Try.func19, Try.ntmps19
  go_upto_region 1 with fail
  refine wp_rename _ HST.out ?_
  intro W hk
  have HK := hid hk
  obtain ⟨m0, m1, m2, m3, m4, _⟩ := hk.three.map.facts
  obtain ⟨d0, d1, d2, d3, d4, df⟩ := hk.three.box.facts
  obtain ⟨o0, o1, o2, o3, o4, of⟩ := hk.three.out.facts
  clear hk HST
  go_wp2_with (first | (go_at_call 37; (with_reducible refine (HMY.out _).mono ?_); rintro e w1 ⟨rfl, hb1⟩; have HK := hid (HK.out.below hb1); clear hb1; clear m0 m1 m2 m3 m4 d0 d1 d2 d3 d4 df o0 o1 o2 o3 o4 of; obtain ⟨m0, m1, m2, m3, m4, _⟩ := HK.out.three.map.facts; obtain ⟨d0, d1, d2, d3, d4, df⟩ := HK.out.three.box.facts; obtain ⟨o0, o1, o2, o3, o4, of⟩ := HK.out.three.out.facts) | (go_at_call 12; (with_reducible refine (HLK.out _).mono ?_); rintro e w2 ⟨rfl, hb2⟩; have HK := hid (HK.out.below hb2); clear hb2; clear m0 m1 m2 m3 m4 d0 d1 d2 d3 d4 df o0 o1 o2 o3 o4 of; obtain ⟨m0, m1, m2, m3, m4, _⟩ := HK.out.three.map.facts; obtain ⟨d0, d1, d2, d3, d4, df⟩ := HK.out.three.box.facts; obtain ⟨o0, o1, o2, o3, o4, of⟩ := HK.out.three.out.facts))
  refine bodyPost_ret (v := (HD.mk ht hl 13 false hx).v) (by simp [results, Try.results19, go_sem, o0, o1, o2, o3, o4, of]) rfl ?_
  exact HK.out.done HOLD.out _ _ rfl rfl rfl _ _ _ _ _

set_option maxRecDepth 100000 in
set_option maxHeartbeats 4000000 in
theorem rrTake_14r (m : PM) (h : HD) (w : World) (B b : Nat) (vw : Value) (s : MS) (hm : Ref w B b vw s) (hz : m.size ≤ (s.zs.length : Int)) (hmay : mayH m h) (hsv : h.s = 14) (hrd : h.rd = true) :
    Calls Try.prog 19 #[m.v, .pointer (some ⟨b, 0, none⟩), h.v] w (HandRet 74 2 (rwLeave m s h).1 (rwLeave m s h).2 B b vw w) := by
  have HST := hid (TkAt.start 74 29 2 m h h0 hm)
  have HOLD := hid hm.hold
  have HMY := hid (fun (x : World) => rMayH_any m h x)
  have hy1 := mayHB_yes hmay
  simp only [hy1] at HMY
  clear hy1
  have HLK := hid (fun (x : World) => refLock_any m h.l 3 x)
  have hdr := mcDrop_range (m := m) (s := s) (h := ⟨h.t, h.l, 8, h.rd, h.x⟩) (by simp)
  have HDR := hid (fun (x : World) (hb : Ref x B b vw s) => rmDrop_any m ⟨h.t, h.l, 8, h.rd, h.x⟩ x B b vw s hb hz)
  have HEQ : rwLeave m s h = (outH (mcDrop m s ⟨h.t, h.l, 8, h.rd, h.x⟩).1, (mcDrop m s ⟨h.t, h.l, 8, h.rd, h.x⟩).2) := by unfold rwLeave inH; rw [hsv]; rfl
  rw [HEQ]
  clear HEQ
  dsimp only
  clear hm hz hmay
  generalize (mcDrop m s ⟨h.t, h.l, 8, h.rd, h.x⟩).2 = s2 at *
  generalize (mcDrop m s ⟨h.t, h.l, 8, h.rd, h.x⟩).1 = g at *
  generalize m.at_ 3 h.l 3 = p at *
  obtain ⟨gt, gl, gs, gr, gx⟩ := g
  try simp only at hdr
  obtain ⟨s1, ml, mt, c, d⟩ := m
  obtain ⟨ht, hl, hs, hr, hx⟩ := h
  simp only at hsv
  subst hsv
  simp only at hrd
  subst hrd
  show Calls _ _ #[.agg #[.int .i64 s1, .int .i64 ml, .int .i64 mt, .int .i64 c, .int .i64 d], _, .agg #[.int .i64 ht, .int .i64 hl, .int .i64 14, .bool true, .int .i64 hx]] _ _
  go_enter Try.func19, Try.ntmps19
  go_upto_region 1 with fail
  refine wp_rename _ HST.out ?_
  intro W hk
  have HK := hid hk
  obtain ⟨m0, m1, m2, m3, m4, _⟩ := hk.three.map.facts
  obtain ⟨d0, d1, d2, d3, d4, df⟩ := hk.three.box.facts
  obtain ⟨o0, o1, o2, o3, o4, of⟩ := hk.three.out.facts
  clear hk HST
  go_upto_region 16 with (first | (go_at_call 37; (with_reducible refine (HMY.out _).mono ?_); rintro e w1 ⟨rfl, hb1⟩; have HK := hid (HK.out.below hb1); clear hb1; clear m0 m1 m2 m3 m4 d0 d1 d2 d3 d4 df o0 o1 o2 o3 o4 of; obtain ⟨m0, m1, m2, m3, m4, _⟩ := HK.out.three.map.facts; obtain ⟨d0, d1, d2, d3, d4, df⟩ := HK.out.three.box.facts; obtain ⟨o0, o1, o2, o3, o4, of⟩ := HK.out.three.out.facts) | (go_at_call 12; (with_reducible refine (HLK.out _).mono ?_); rintro e w2 ⟨rfl, hb2⟩; have HK := hid (HK.out.below hb2); clear hb2; clear m0 m1 m2 m3 m4 d0 d1 d2 d3 d4 df o0 o1 o2 o3 o4 of; obtain ⟨m0, m1, m2, m3, m4, _⟩ := HK.out.three.map.facts; obtain ⟨d0, d1, d2, d3, d4, df⟩ := HK.out.three.box.facts; obtain ⟨o0, o1, o2, o3, o4, of⟩ := HK.out.three.out.facts))
  have hc16 : (w2.alloc (.cells #[.int .i64 9, .int .i64 7, .int .i64 6, .int .i64 8] 3)).cell? ⟨w2.heap.size, 3, none⟩ = some (.int .i64 8) := cell_of_blk (heap_alloc_new _ _) 3
  obtain ⟨_, _, hc17, _, _, hc18⟩ := (HK.out.below (bnew (bid w2) (.cells #[.int .i64 9, .int .i64 7, .int .i64 6, .int .i64 8] 3))).three.box.facts
  clear d0 d1 d2 d3 d4 df
  go_upto_region 17 with fail
  refine wp_rename (fun W' => TkAt 74 29 2 w ⟨s1, ml, mt, c, d⟩ ⟨ht, hl, 8, true, hx⟩ h0 B b vw s W') ((HK.out.below (bnew (bid _) _)).setS HOLD.out 8) ?_
  clear HK HMY HLK m0 m1 m2 m3 m4 hc16 hc17 hc18 o0 o1 o2 o3 o4 of
  intro W2 hk
  have HK := hid hk
  obtain ⟨m0, m1, m2, m3, m4, _⟩ := HK.out.three.map.facts
  obtain ⟨d0, d1, d2, d3, d4, df⟩ := HK.out.three.box.facts
  obtain ⟨o0, o1, o2, o3, o4, of⟩ := HK.out.three.out.facts
  clear hk
  go_upto_region 18 with (go_at_call 36; (with_reducible refine (HDR.out _ HK.out.mem).mono ?_); rintro e w3 ⟨rfl, hm3, hw3⟩; have HK := hid (HK.out.next hm3 hw3 HOLD.out); clear hm3 hw3; clear m0 m1 m2 m3 m4 d0 d1 d2 d3 d4 df o0 o1 o2 o3 o4 of; obtain ⟨m0, m1, m2, m3, m4, _⟩ := HK.out.three.map.facts; obtain ⟨d0, d1, d2, d3, d4, df⟩ := HK.out.three.box.facts; obtain ⟨o0, o1, o2, o3, o4, of⟩ := HK.out.three.out.facts)
  refine wp_rename (fun W' => TkAt 74 29 2 w ⟨s1, ml, mt, c, d⟩ ⟨gt, gl, gs, gr, gx⟩ h0 B b vw s2 W') (HK.out.setH HOLD.out ⟨gt, gl, gs, gr, gx⟩) ?_
  clear HK HDR m0 m1 m2 m3 m4 d0 d1 d2 d3 d4 df o0 o1 o2 o3 o4 of
  intro W4 hk
  have HK := hid hk
  obtain ⟨d0, d1, d2, d3, d4, df⟩ := HK.out.three.box.facts
  obtain ⟨o0, o1, o2, o3, o4, of⟩ := HK.out.three.out.facts
  clear hk
  rcases hdr with rfl | rfl | rfl | rfl | rfl
  · go_wp2_with fail
    refine bodyPost_ret (v := (HD.mk gt gl 9 gr gx).v) (by simp [results, Try.results19, go_sem, o0, o1, o2, o3, o4, of]) rfl ?_
    exact (HK.out.setS HOLD.out 9).done HOLD.out _ _ rfl rfl rfl _ _ _ _ _
  · go_wp2_with fail
    refine bodyPost_ret (v := (HD.mk gt gl 11 gr gx).v) (by simp [results, Try.results19, go_sem, o0, o1, o2, o3, o4, of]) rfl ?_
    exact (HK.out.setS HOLD.out 11).done HOLD.out _ _ rfl rfl rfl _ _ _ _ _
  · go_wp2_with fail
    refine bodyPost_ret (v := (HD.mk gt gl 12 gr gx).v) (by simp [results, Try.results19, go_sem, o0, o1, o2, o3, o4, of]) rfl ?_
    exact (HK.out.setS HOLD.out 12).done HOLD.out _ _ rfl rfl rfl _ _ _ _ _
  · go_wp2_with fail
    refine bodyPost_ret (v := (HD.mk gt gl 13 gr gx).v) (by simp [results, Try.results19, go_sem, o0, o1, o2, o3, o4, of]) rfl ?_
    exact (HK.out.setS HOLD.out 13).done HOLD.out _ _ rfl rfl rfl _ _ _ _ _
  · go_wp2_with fail
    refine bodyPost_ret (v := (HD.mk gt gl 14 gr gx).v) (by simp [results, Try.results19, go_sem, o0, o1, o2, o3, o4, of]) rfl ?_
    exact (HK.out.setS HOLD.out 14).done HOLD.out _ _ rfl rfl rfl _ _ _ _ _

set_option maxRecDepth 100000 in
set_option maxHeartbeats 4000000 in
theorem rrTake_14w (m : PM) (h : HD) (w : World) (B b : Nat) (vw : Value) (s : MS) (hm : Ref w B b vw s) (hz : m.size ≤ (s.zs.length : Int)) (hmay : mayH m h) (hsv : h.s = 14) (hrd : h.rd = false) :
    Calls Try.prog 19 #[m.v, .pointer (some ⟨b, 0, none⟩), h.v] w (HandRet 74 2 h s B b vw w) := by
  have HST := hid (TkAt.start 74 29 2 m h h0 hm)
  have HOLD := hid hm.hold
  have HMY := hid (fun (x : World) => rMayH_any m h x)
  have hy1 := mayHB_yes hmay
  simp only [hy1] at HMY
  clear hy1
  have HLK := hid (fun (x : World) => refLock_any m h.l 3 x)
  clear hm hz hmay
  generalize m.at_ 3 h.l 3 = p at *
  obtain ⟨s1, ml, mt, c, d⟩ := m
  obtain ⟨ht, hl, hs, hr, hx⟩ := h
  simp only at hsv
  subst hsv
  simp only at hrd
  subst hrd
  show Calls _ _ #[.agg #[.int .i64 s1, .int .i64 ml, .int .i64 mt, .int .i64 c, .int .i64 d], _, .agg #[.int .i64 ht, .int .i64 hl, .int .i64 14, .bool false, .int .i64 hx]] _ _
  go_enter Try.func19, Try.ntmps19
  go_upto_region 1 with fail
  refine wp_rename _ HST.out ?_
  intro W hk
  have HK := hid hk
  obtain ⟨m0, m1, m2, m3, m4, _⟩ := hk.three.map.facts
  obtain ⟨d0, d1, d2, d3, d4, df⟩ := hk.three.box.facts
  obtain ⟨o0, o1, o2, o3, o4, of⟩ := hk.three.out.facts
  clear hk HST
  go_wp2_with (first | (go_at_call 37; (with_reducible refine (HMY.out _).mono ?_); rintro e w1 ⟨rfl, hb1⟩; have HK := hid (HK.out.below hb1); clear hb1; clear m0 m1 m2 m3 m4 d0 d1 d2 d3 d4 df o0 o1 o2 o3 o4 of; obtain ⟨m0, m1, m2, m3, m4, _⟩ := HK.out.three.map.facts; obtain ⟨d0, d1, d2, d3, d4, df⟩ := HK.out.three.box.facts; obtain ⟨o0, o1, o2, o3, o4, of⟩ := HK.out.three.out.facts) | (go_at_call 12; (with_reducible refine (HLK.out _).mono ?_); rintro e w2 ⟨rfl, hb2⟩; have HK := hid (HK.out.below hb2); clear hb2; clear m0 m1 m2 m3 m4 d0 d1 d2 d3 d4 df o0 o1 o2 o3 o4 of; obtain ⟨m0, m1, m2, m3, m4, _⟩ := HK.out.three.map.facts; obtain ⟨d0, d1, d2, d3, d4, df⟩ := HK.out.three.box.facts; obtain ⟨o0, o1, o2, o3, o4, of⟩ := HK.out.three.out.facts))
  refine bodyPost_ret (v := (HD.mk ht hl 14 false hx).v) (by simp [results, Try.results19, go_sem, o0, o1, o2, o3, o4, of]) rfl ?_
  exact HK.out.done HOLD.out _ _ rfl rfl rfl _ _ _ _ _

set_option maxRecDepth 100000 in
set_option maxHeartbeats 4000000 in
theorem rrTake_lo (m : PM) (h : HD) (w : World) (B b : Nat) (vw : Value) (s : MS) (hm : Ref w B b vw s) (hz : m.size ≤ (s.zs.length : Int)) (hmay : mayH m h) (q : h.s < 0) :
    Calls Try.prog 19 #[m.v, .pointer (some ⟨b, 0, none⟩), h.v] w (HandRet 74 2 h s B b vw w) := by
  have HST := hid (TkAt.start 74 29 2 m h h0 hm)
  have HOLD := hid hm.hold
  have HMY := hid (fun (x : World) => rMayH_any m h x)
  have hy1 := mayHB_yes hmay
  simp only [hy1] at HMY
  clear hy1
  have HLK := hid (fun (x : World) => refLock_any m h.l 3 x)
  clear hm hz hmay
  generalize m.at_ 3 h.l 3 = p at *
  obtain ⟨s1, ml, mt, c, d⟩ := m
  obtain ⟨ht, hl, hs, hr, hx⟩ := h
  simp only at q
  have q1 : ¬ 0 ≤ hs := by omega
  have q2 : hs ≠ 10 := by omega
  have q3 : ¬ 11 ≤ hs := by omega
  show Calls _ _ #[.agg #[.int .i64 s1, .int .i64 ml, .int .i64 mt, .int .i64 c, .int .i64 d], _, .agg #[.int .i64 ht, .int .i64 hl, .int .i64 hs, .bool hr, .int .i64 hx]] _ _
  go_enter Try.func19, Try.ntmps19
  go_upto_region 1 with fail
  refine wp_rename _ HST.out ?_
  intro W hk
  have HK := hid hk
  obtain ⟨m0, m1, m2, m3, m4, _⟩ := hk.three.map.facts
  obtain ⟨d0, d1, d2, d3, d4, df⟩ := hk.three.box.facts
  obtain ⟨o0, o1, o2, o3, o4, of⟩ := hk.three.out.facts
  clear hk HST
  go_wp2_with (first | (go_at_call 37; (with_reducible refine (HMY.out _).mono ?_); rintro e w1 ⟨rfl, hb1⟩; have HK := hid (HK.out.below hb1); clear hb1; clear m0 m1 m2 m3 m4 d0 d1 d2 d3 d4 df o0 o1 o2 o3 o4 of; obtain ⟨m0, m1, m2, m3, m4, _⟩ := HK.out.three.map.facts; obtain ⟨d0, d1, d2, d3, d4, df⟩ := HK.out.three.box.facts; obtain ⟨o0, o1, o2, o3, o4, of⟩ := HK.out.three.out.facts) | (go_at_call 12; (with_reducible refine (HLK.out _).mono ?_); rintro e w2 ⟨rfl, hb2⟩; have HK := hid (HK.out.below hb2); clear hb2; clear m0 m1 m2 m3 m4 d0 d1 d2 d3 d4 df o0 o1 o2 o3 o4 of; obtain ⟨m0, m1, m2, m3, m4, _⟩ := HK.out.three.map.facts; obtain ⟨d0, d1, d2, d3, d4, df⟩ := HK.out.three.box.facts; obtain ⟨o0, o1, o2, o3, o4, of⟩ := HK.out.three.out.facts))
  refine bodyPost_ret (v := (HD.mk ht hl hs hr hx).v) (by simp [results, Try.results19, go_sem, o0, o1, o2, o3, o4, of]) rfl ?_
  exact HK.out.done HOLD.out _ _ rfl rfl rfl _ _ _ _ _

set_option maxRecDepth 100000 in
set_option maxHeartbeats 4000000 in
theorem rrTake_mid (m : PM) (h : HD) (w : World) (B b : Nat) (vw : Value) (s : MS) (hm : Ref w B b vw s) (hz : m.size ≤ (s.zs.length : Int)) (hmay : mayH m h) (q : 6 ≤ h.s) (qq : h.s ≤ 9) :
    Calls Try.prog 19 #[m.v, .pointer (some ⟨b, 0, none⟩), h.v] w (HandRet 74 2 h s B b vw w) := by
  have HST := hid (TkAt.start 74 29 2 m h h0 hm)
  have HOLD := hid hm.hold
  have HMY := hid (fun (x : World) => rMayH_any m h x)
  have hy1 := mayHB_yes hmay
  simp only [hy1] at HMY
  clear hy1
  have HLK := hid (fun (x : World) => refLock_any m h.l 3 x)
  clear hm hz hmay
  generalize m.at_ 3 h.l 3 = p at *
  obtain ⟨s1, ml, mt, c, d⟩ := m
  obtain ⟨ht, hl, hs, hr, hx⟩ := h
  simp only at q
  simp only at qq
  have q1 : 0 ≤ hs := by omega
  have q0 : ¬ hs ≤ 5 := by omega
  have q2 : hs ≠ 10 := by omega
  have q3 : ¬ 11 ≤ hs := by omega
  show Calls _ _ #[.agg #[.int .i64 s1, .int .i64 ml, .int .i64 mt, .int .i64 c, .int .i64 d], _, .agg #[.int .i64 ht, .int .i64 hl, .int .i64 hs, .bool hr, .int .i64 hx]] _ _
  go_enter Try.func19, Try.ntmps19
  go_upto_region 1 with fail
  refine wp_rename _ HST.out ?_
  intro W hk
  have HK := hid hk
  obtain ⟨m0, m1, m2, m3, m4, _⟩ := hk.three.map.facts
  obtain ⟨d0, d1, d2, d3, d4, df⟩ := hk.three.box.facts
  obtain ⟨o0, o1, o2, o3, o4, of⟩ := hk.three.out.facts
  clear hk HST
  go_wp2_with (first | (go_at_call 37; (with_reducible refine (HMY.out _).mono ?_); rintro e w1 ⟨rfl, hb1⟩; have HK := hid (HK.out.below hb1); clear hb1; clear m0 m1 m2 m3 m4 d0 d1 d2 d3 d4 df o0 o1 o2 o3 o4 of; obtain ⟨m0, m1, m2, m3, m4, _⟩ := HK.out.three.map.facts; obtain ⟨d0, d1, d2, d3, d4, df⟩ := HK.out.three.box.facts; obtain ⟨o0, o1, o2, o3, o4, of⟩ := HK.out.three.out.facts) | (go_at_call 12; (with_reducible refine (HLK.out _).mono ?_); rintro e w2 ⟨rfl, hb2⟩; have HK := hid (HK.out.below hb2); clear hb2; clear m0 m1 m2 m3 m4 d0 d1 d2 d3 d4 df o0 o1 o2 o3 o4 of; obtain ⟨m0, m1, m2, m3, m4, _⟩ := HK.out.three.map.facts; obtain ⟨d0, d1, d2, d3, d4, df⟩ := HK.out.three.box.facts; obtain ⟨o0, o1, o2, o3, o4, of⟩ := HK.out.three.out.facts))
  refine bodyPost_ret (v := (HD.mk ht hl hs hr hx).v) (by simp [results, Try.results19, go_sem, o0, o1, o2, o3, o4, of]) rfl ?_
  exact HK.out.done HOLD.out _ _ rfl rfl rfl _ _ _ _ _

set_option maxRecDepth 100000 in
set_option maxHeartbeats 4000000 in
theorem rrTake_hi (m : PM) (h : HD) (w : World) (B b : Nat) (vw : Value) (s : MS) (hm : Ref w B b vw s) (hz : m.size ≤ (s.zs.length : Int)) (hmay : mayH m h) (q : 15 ≤ h.s) :
    Calls Try.prog 19 #[m.v, .pointer (some ⟨b, 0, none⟩), h.v] w (HandRet 74 2 h s B b vw w) := by
  have HST := hid (TkAt.start 74 29 2 m h h0 hm)
  have HOLD := hid hm.hold
  have HMY := hid (fun (x : World) => rMayH_any m h x)
  have hy1 := mayHB_yes hmay
  simp only [hy1] at HMY
  clear hy1
  have HLK := hid (fun (x : World) => refLock_any m h.l 3 x)
  clear hm hz hmay
  generalize m.at_ 3 h.l 3 = p at *
  obtain ⟨s1, ml, mt, c, d⟩ := m
  obtain ⟨ht, hl, hs, hr, hx⟩ := h
  simp only at q
  have q1 : 0 ≤ hs := by omega
  have q0 : ¬ hs ≤ 5 := by omega
  have q2 : hs ≠ 10 := by omega
  have q3 : 11 ≤ hs := by omega
  have q4 : ¬ hs ≤ 14 := by omega
  show Calls _ _ #[.agg #[.int .i64 s1, .int .i64 ml, .int .i64 mt, .int .i64 c, .int .i64 d], _, .agg #[.int .i64 ht, .int .i64 hl, .int .i64 hs, .bool hr, .int .i64 hx]] _ _
  go_enter Try.func19, Try.ntmps19
  go_upto_region 1 with fail
  refine wp_rename _ HST.out ?_
  intro W hk
  have HK := hid hk
  obtain ⟨m0, m1, m2, m3, m4, _⟩ := hk.three.map.facts
  obtain ⟨d0, d1, d2, d3, d4, df⟩ := hk.three.box.facts
  obtain ⟨o0, o1, o2, o3, o4, of⟩ := hk.three.out.facts
  clear hk HST
  go_wp2_with (first | (go_at_call 37; (with_reducible refine (HMY.out _).mono ?_); rintro e w1 ⟨rfl, hb1⟩; have HK := hid (HK.out.below hb1); clear hb1; clear m0 m1 m2 m3 m4 d0 d1 d2 d3 d4 df o0 o1 o2 o3 o4 of; obtain ⟨m0, m1, m2, m3, m4, _⟩ := HK.out.three.map.facts; obtain ⟨d0, d1, d2, d3, d4, df⟩ := HK.out.three.box.facts; obtain ⟨o0, o1, o2, o3, o4, of⟩ := HK.out.three.out.facts) | (go_at_call 12; (with_reducible refine (HLK.out _).mono ?_); rintro e w2 ⟨rfl, hb2⟩; have HK := hid (HK.out.below hb2); clear hb2; clear m0 m1 m2 m3 m4 d0 d1 d2 d3 d4 df o0 o1 o2 o3 o4 of; obtain ⟨m0, m1, m2, m3, m4, _⟩ := HK.out.three.map.facts; obtain ⟨d0, d1, d2, d3, d4, df⟩ := HK.out.three.box.facts; obtain ⟨o0, o1, o2, o3, o4, of⟩ := HK.out.three.out.facts))
  refine bodyPost_ret (v := (HD.mk ht hl hs hr hx).v) (by simp [results, Try.results19, go_sem, o0, o1, o2, o3, o4, of]) rfl ?_
  exact HK.out.done HOLD.out _ _ rfl rfl rfl _ _ _ _ _

theorem rrwTake_any (m : PM) (h : HD) (w : World) (B b : Nat) (vw : Value) (s : MS) (hm : Ref w B b vw s) (hz : m.size ≤ (s.zs.length : Int)) :
    Calls Try.prog 19 #[m.v, .pointer (some ⟨b, 0, none⟩), h.v] w (HandRet 74 2 (rwTake m s h).1 (rwTake m s h).2 B b vw w) := by
  unfold rwTake
  by_cases hmay : mayH m h
  · rw [if_pos hmay]
    by_cases c : 0 ≤ h.s ∧ h.s ≤ 5
    · rw [if_pos c]
      rcases (show h.s = 0 ∨ h.s = 1 ∨ h.s = 2 ∨ h.s = 3 ∨ h.s = 4 ∨ h.s = 5 by omega) with q | q | q | q | q | q
      · exact rrTake_0 m h w B b vw s hm hz hmay q
      · exact rrTake_1 m h w B b vw s hm hz hmay q
      · exact rrTake_2 m h w B b vw s hm hz hmay q
      · exact rrTake_3 m h w B b vw s hm hz hmay q
      · exact rrTake_4 m h w B b vw s hm hz hmay q
      · exact rrTake_5 m h w B b vw s hm hz hmay q
    rw [if_neg c]
    by_cases c10 : h.s = 10
    · rw [if_pos c10]
      by_cases cr : h.rd = true
      · rw [if_pos cr]; exact rrTake_10r m h w B b vw s hm hz hmay c10 cr
      · rw [if_neg cr]
        have cr' : h.rd = false := by simpa using cr
        by_cases cy : s.vAt (m.at_ 3 h.l 3) = 0
        · rw [if_pos cy]; exact rrTake_10w m h w B b vw s hm hz hmay c10 cr' cy
        · rw [if_neg cy]; exact rrTake_10wn m h w B b vw s hm hz hmay c10 cr' cy
    rw [if_neg c10]
    by_cases c11 : 11 ≤ h.s ∧ h.s ≤ 14
    · by_cases cr : h.rd = true
      · rw [if_pos ⟨c11, cr⟩]
        rcases (show h.s = 11 ∨ h.s = 12 ∨ h.s = 13 ∨ h.s = 14 by omega) with q | q | q | q
        · exact rrTake_11r m h w B b vw s hm hz hmay q cr
        · exact rrTake_12r m h w B b vw s hm hz hmay q cr
        · exact rrTake_13r m h w B b vw s hm hz hmay q cr
        · exact rrTake_14r m h w B b vw s hm hz hmay q cr
      · rw [if_neg (fun e => cr e.2)]
        have cr' : h.rd = false := by simpa using cr
        rcases (show h.s = 11 ∨ h.s = 12 ∨ h.s = 13 ∨ h.s = 14 by omega) with q | q | q | q
        · exact rrTake_11w m h w B b vw s hm hz hmay q cr'
        · exact rrTake_12w m h w B b vw s hm hz hmay q cr'
        · exact rrTake_13w m h w B b vw s hm hz hmay q cr'
        · exact rrTake_14w m h w B b vw s hm hz hmay q cr'
    · rw [if_neg (fun e => c11 e.1)]
      rcases (show h.s < 0 ∨ (6 ≤ h.s ∧ h.s ≤ 9) ∨ 15 ≤ h.s by omega) with q | ⟨q, qq⟩ | q
      · exact rrTake_lo m h w B b vw s hm hz hmay q
      · exact rrTake_mid m h w B b vw s hm hz hmay q qq
      · exact rrTake_hi m h w B b vw s hm hz hmay q
  · rw [if_neg hmay]
    exact rrTake_no m h w B b vw s hm hz hmay

set_option maxRecDepth 100000 in
set_option maxHeartbeats 4000000 in
theorem rrDrop_w (m : PM) (h : HD) (w : World) (B b : Nat) (vw : Value) (s : MS) (hm : Ref w B b vw s) (hz : m.size ≤ (s.zs.length : Int)) (hrd : h.rd = false) :
    Calls Try.prog 17 #[m.v, .pointer (some ⟨b, 0, none⟩), h.v] w (HandRet 74 2 (mcDrop m s h).1 (mcDrop m s h).2 B b vw w) := by
  have HST := hid (TkAt.start 74 29 2 m h h0 hm)
  have HOLD := hid hm.hold
  have HDR := hid (fun (x : World) (hb : Ref x B b vw s) => rmDrop_any m h x B b vw s hb hz)
  clear hm hz
  generalize (mcDrop m s h).2 = s2 at *
  generalize (mcDrop m s h).1 = g at *
  obtain ⟨gt, gl, gs, gr, gx⟩ := g
  obtain ⟨s1, ml, mt, c, d⟩ := m
  obtain ⟨ht, hl, hs, hr, hx⟩ := h
  simp only at hrd
  subst hrd
  show Calls _ _ #[.agg #[.int .i64 s1, .int .i64 ml, .int .i64 mt, .int .i64 c, .int .i64 d], _, .agg #[.int .i64 ht, .int .i64 hl, .int .i64 hs, .bool false, .int .i64 hx]] _ _
  go_enter Try.func17, Try.ntmps17
  go_upto_region 1 with fail
  refine wp_rename _ HST.out ?_
  intro W hk
  have HK := hid hk
  obtain ⟨m0, m1, m2, m3, m4, _⟩ := hk.three.map.facts
  obtain ⟨d0, d1, d2, d3, d4, df⟩ := hk.three.box.facts
  obtain ⟨o0, o1, o2, o3, o4, of⟩ := hk.three.out.facts
  clear hk HST
  go_wp2_with ((go_at_call 36; (with_reducible refine (HDR.out _ HK.out.mem).mono ?_); rintro e w3 ⟨rfl, hm3, hw3⟩; have HK := hid (HK.out.next hm3 hw3 HOLD.out); clear hm3 hw3; clear m0 m1 m2 m3 m4 d0 d1 d2 d3 d4 df o0 o1 o2 o3 o4 of; obtain ⟨m0, m1, m2, m3, m4, _⟩ := HK.out.three.map.facts; obtain ⟨d0, d1, d2, d3, d4, df⟩ := HK.out.three.box.facts; obtain ⟨o0, o1, o2, o3, o4, of⟩ := HK.out.three.out.facts))
  refine bodyPost_ret (v := (HD.mk gt gl gs gr gx).v) (by simp [results, Try.results17, go_sem, o0, o1, o2, o3, o4, of]) rfl ?_
  exact HK.out.out HOLD.out ⟨gt, gl, gs, gr, gx⟩ rfl _ _ _ _ _

set_option maxRecDepth 100000 in
set_option maxHeartbeats 4000000 in
theorem rrDrop_9 (m : PM) (h : HD) (w : World) (B b : Nat) (vw : Value) (s : MS) (hm : Ref w B b vw s) (hz : m.size ≤ (s.zs.length : Int)) (hrd : h.rd = true) (hmay : mayH m h) (hsv : h.s = 9) :
    Calls Try.prog 17 #[m.v, .pointer (some ⟨b, 0, none⟩), h.v] w (HandRet 74 2 ⟨h.t, h.l, 0, h.rd, h.x⟩ (s.added (m.at_ 3 h.l 3) (-1)) B b vw w) := by
  have HST := hid (TkAt.start 74 29 2 m h h0 hm)
  have HOLD := hid hm.hold
  have HMY := hid (fun (x : World) => rMayH_any m h x)
  have hy1 := mayHB_yes hmay
  simp only [hy1] at HMY
  clear hy1
  have HLK := hid (fun (x : World) => refLock_any m h.l 3 x)
  have HMO := hid (fun (x : World) (hb : Ref x B b vw s) => rAdd_at (m.at_ 3 h.l 3) (-1) x B b vw s hb)
  clear hm hz hmay
  generalize m.at_ 3 h.l 3 = p at *
  generalize s.eAt p = ee at *
  generalize s.vAt p = y at *
  obtain ⟨s1, ml, mt, c, d⟩ := m
  obtain ⟨ht, hl, hs, hr, hx⟩ := h
  simp only at hsv
  subst hsv
  simp only at hrd
  subst hrd
  show Calls _ _ #[.agg #[.int .i64 s1, .int .i64 ml, .int .i64 mt, .int .i64 c, .int .i64 d], _, .agg #[.int .i64 ht, .int .i64 hl, .int .i64 9, .bool true, .int .i64 hx]] _ _
  go_enter Try.func17, Try.ntmps17
  go_upto_region 1 with fail
  refine wp_rename _ HST.out ?_
  intro W hk
  have HK := hid hk
  obtain ⟨m0, m1, m2, m3, m4, _⟩ := hk.three.map.facts
  obtain ⟨d0, d1, d2, d3, d4, df⟩ := hk.three.box.facts
  obtain ⟨o0, o1, o2, o3, o4, of⟩ := hk.three.out.facts
  clear hk HST
  go_wp2_with (first | (go_at_call 37; (with_reducible refine (HMY.out _).mono ?_); rintro e w1 ⟨rfl, hb1⟩; have HK := hid (HK.out.below hb1); clear hb1; clear m0 m1 m2 m3 m4 d0 d1 d2 d3 d4 df o0 o1 o2 o3 o4 of; obtain ⟨m0, m1, m2, m3, m4, _⟩ := HK.out.three.map.facts; obtain ⟨d0, d1, d2, d3, d4, df⟩ := HK.out.three.box.facts; obtain ⟨o0, o1, o2, o3, o4, of⟩ := HK.out.three.out.facts) | (go_at_call 12; (with_reducible refine (HLK.out _).mono ?_); rintro e w2 ⟨rfl, hb2⟩; have HK := hid (HK.out.below hb2); clear hb2; clear m0 m1 m2 m3 m4 d0 d1 d2 d3 d4 df o0 o1 o2 o3 o4 of; obtain ⟨m0, m1, m2, m3, m4, _⟩ := HK.out.three.map.facts; obtain ⟨d0, d1, d2, d3, d4, df⟩ := HK.out.three.box.facts; obtain ⟨o0, o1, o2, o3, o4, of⟩ := HK.out.three.out.facts) | (go_at_call 38; (with_reducible refine (HMO.out _ HK.out.mem).mono ?_); rintro e w4 ⟨rfl, hm4, hw4⟩; have HK := hid (HK.out.next hm4 hw4 HOLD.out); clear hm4 hw4; clear m0 m1 m2 m3 m4 d0 d1 d2 d3 d4 df o0 o1 o2 o3 o4 of; obtain ⟨m0, m1, m2, m3, m4, _⟩ := HK.out.three.map.facts; obtain ⟨d0, d1, d2, d3, d4, df⟩ := HK.out.three.box.facts; obtain ⟨o0, o1, o2, o3, o4, of⟩ := HK.out.three.out.facts))
  refine bodyPost_ret (v := (HD.mk ht hl 0 true hx).v) (by simp [results, Try.results17, go_sem, o0, o1, o2, o3, o4, of]) rfl ?_
  exact (HK.out.setS HOLD.out 0).done HOLD.out _ _ rfl rfl rfl _ _ _ _ _

set_option maxRecDepth 100000 in
set_option maxHeartbeats 4000000 in
theorem rrDrop_9n (m : PM) (h : HD) (w : World) (B b : Nat) (vw : Value) (s : MS) (hm : Ref w B b vw s) (hz : m.size ≤ (s.zs.length : Int)) (hrd : h.rd = true) (hmay : ¬ mayH m h) (hsv : h.s = 9) :
    Calls Try.prog 17 #[m.v, .pointer (some ⟨b, 0, none⟩), h.v] w (HandRet 74 2 h s B b vw w) := by
  have HST := hid (TkAt.start 74 29 2 m h h0 hm)
  have HOLD := hid hm.hold
  have HMY := hid (fun (x : World) => rMayH_any m h x)
  have hy1 := mayHB_no hmay
  simp only [hy1] at HMY
  clear hy1
  clear hm hz hmay
  obtain ⟨s1, ml, mt, c, d⟩ := m
  obtain ⟨ht, hl, hs, hr, hx⟩ := h
  simp only at hsv
  subst hsv
  simp only at hrd
  subst hrd
  show Calls _ _ #[.agg #[.int .i64 s1, .int .i64 ml, .int .i64 mt, .int .i64 c, .int .i64 d], _, .agg #[.int .i64 ht, .int .i64 hl, .int .i64 9, .bool true, .int .i64 hx]] _ _
  go_enter Try.func17, Try.ntmps17
  go_upto_region 1 with fail
  refine wp_rename _ HST.out ?_
  intro W hk
  have HK := hid hk
  obtain ⟨m0, m1, m2, m3, m4, _⟩ := hk.three.map.facts
  obtain ⟨d0, d1, d2, d3, d4, df⟩ := hk.three.box.facts
  obtain ⟨o0, o1, o2, o3, o4, of⟩ := hk.three.out.facts
  clear hk HST
  go_wp2_with ((go_at_call 37; (with_reducible refine (HMY.out _).mono ?_); rintro e w1 ⟨rfl, hb1⟩; have HK := hid (HK.out.below hb1); clear hb1; clear m0 m1 m2 m3 m4 d0 d1 d2 d3 d4 df o0 o1 o2 o3 o4 of; obtain ⟨m0, m1, m2, m3, m4, _⟩ := HK.out.three.map.facts; obtain ⟨d0, d1, d2, d3, d4, df⟩ := HK.out.three.box.facts; obtain ⟨o0, o1, o2, o3, o4, of⟩ := HK.out.three.out.facts))
  refine bodyPost_ret (v := (HD.mk ht hl 9 true hx).v) (by simp [results, Try.results17, go_sem, o0, o1, o2, o3, o4, of]) rfl ?_
  exact HK.out.done HOLD.out _ _ rfl rfl rfl _ _ _ _ _

set_option maxRecDepth 100000 in
set_option maxHeartbeats 4000000 in
theorem rrDrop_q (m : PM) (h : HD) (w : World) (B b : Nat) (vw : Value) (s : MS) (hm : Ref w B b vw s) (hz : m.size ≤ (s.zs.length : Int)) (hrd : h.rd = true) (hmay : mayH m h) (hsv : ¬ h.s = 9) :
    Calls Try.prog 17 #[m.v, .pointer (some ⟨b, 0, none⟩), h.v] w (HandRet 74 2 h s B b vw w) := by
  have HST := hid (TkAt.start 74 29 2 m h h0 hm)
  have HOLD := hid hm.hold
  have HMY := hid (fun (x : World) => rMayH_any m h x)
  have hy1 := mayHB_yes hmay
  simp only [hy1] at HMY
  clear hy1
  clear hmay hm hz
  obtain ⟨s1, ml, mt, c, d⟩ := m
  obtain ⟨ht, hl, hs, hr, hx⟩ := h
  simp only at hsv
  simp only at hrd
  subst hrd
  show Calls _ _ #[.agg #[.int .i64 s1, .int .i64 ml, .int .i64 mt, .int .i64 c, .int .i64 d], _, .agg #[.int .i64 ht, .int .i64 hl, .int .i64 hs, .bool true, .int .i64 hx]] _ _
  go_enter Try.func17, Try.ntmps17
  go_upto_region 1 with fail
  refine wp_rename _ HST.out ?_
  intro W hk
  have HK := hid hk
  obtain ⟨m0, m1, m2, m3, m4, _⟩ := hk.three.map.facts
  obtain ⟨d0, d1, d2, d3, d4, df⟩ := hk.three.box.facts
  obtain ⟨o0, o1, o2, o3, o4, of⟩ := hk.three.out.facts
  clear hk HST
  go_wp2_with ((go_at_call 37; (with_reducible refine (HMY.out _).mono ?_); rintro e w1 ⟨rfl, hb1⟩; have HK := hid (HK.out.below hb1); clear hb1; clear m0 m1 m2 m3 m4 d0 d1 d2 d3 d4 df o0 o1 o2 o3 o4 of; obtain ⟨m0, m1, m2, m3, m4, _⟩ := HK.out.three.map.facts; obtain ⟨d0, d1, d2, d3, d4, df⟩ := HK.out.three.box.facts; obtain ⟨o0, o1, o2, o3, o4, of⟩ := HK.out.three.out.facts))
  refine bodyPost_ret (v := (HD.mk ht hl hs true hx).v) (by simp [results, Try.results17, go_sem, o0, o1, o2, o3, o4, of]) rfl ?_
  exact HK.out.done HOLD.out _ _ rfl rfl rfl _ _ _ _ _

set_option maxRecDepth 100000 in
set_option maxHeartbeats 4000000 in
theorem rrDrop_qn (m : PM) (h : HD) (w : World) (B b : Nat) (vw : Value) (s : MS) (hm : Ref w B b vw s) (hz : m.size ≤ (s.zs.length : Int)) (hrd : h.rd = true) (hmay : ¬ mayH m h) (hsv : ¬ h.s = 9) :
    Calls Try.prog 17 #[m.v, .pointer (some ⟨b, 0, none⟩), h.v] w (HandRet 74 2 h s B b vw w) := by
  have HST := hid (TkAt.start 74 29 2 m h h0 hm)
  have HOLD := hid hm.hold
  have HMY := hid (fun (x : World) => rMayH_any m h x)
  have hy1 := mayHB_no hmay
  simp only [hy1] at HMY
  clear hy1
  clear hmay hm hz
  obtain ⟨s1, ml, mt, c, d⟩ := m
  obtain ⟨ht, hl, hs, hr, hx⟩ := h
  simp only at hsv
  simp only at hrd
  subst hrd
  show Calls _ _ #[.agg #[.int .i64 s1, .int .i64 ml, .int .i64 mt, .int .i64 c, .int .i64 d], _, .agg #[.int .i64 ht, .int .i64 hl, .int .i64 hs, .bool true, .int .i64 hx]] _ _
  go_enter Try.func17, Try.ntmps17
  go_upto_region 1 with fail
  refine wp_rename _ HST.out ?_
  intro W hk
  have HK := hid hk
  obtain ⟨m0, m1, m2, m3, m4, _⟩ := hk.three.map.facts
  obtain ⟨d0, d1, d2, d3, d4, df⟩ := hk.three.box.facts
  obtain ⟨o0, o1, o2, o3, o4, of⟩ := hk.three.out.facts
  clear hk HST
  go_wp2_with ((go_at_call 37; (with_reducible refine (HMY.out _).mono ?_); rintro e w1 ⟨rfl, hb1⟩; have HK := hid (HK.out.below hb1); clear hb1; clear m0 m1 m2 m3 m4 d0 d1 d2 d3 d4 df o0 o1 o2 o3 o4 of; obtain ⟨m0, m1, m2, m3, m4, _⟩ := HK.out.three.map.facts; obtain ⟨d0, d1, d2, d3, d4, df⟩ := HK.out.three.box.facts; obtain ⟨o0, o1, o2, o3, o4, of⟩ := HK.out.three.out.facts))
  refine bodyPost_ret (v := (HD.mk ht hl hs true hx).v) (by simp [results, Try.results17, go_sem, o0, o1, o2, o3, o4, of]) rfl ?_
  exact HK.out.done HOLD.out _ _ rfl rfl rfl _ _ _ _ _

theorem rrwDrop_any (m : PM) (h : HD) (w : World) (B b : Nat) (vw : Value) (s : MS) (hm : Ref w B b vw s) (hz : m.size ≤ (s.zs.length : Int)) :
    Calls Try.prog 17 #[m.v, .pointer (some ⟨b, 0, none⟩), h.v] w (HandRet 74 2 (rwDrop m s h).1 (rwDrop m s h).2 B b vw w) := by
  unfold rwDrop
  by_cases cr : h.rd = false
  · rw [if_pos cr]; exact rrDrop_w m h w B b vw s hm hz cr
  · rw [if_neg cr]
    have cr' : h.rd = true := by simpa using cr
    by_cases c9 : h.s = 9
    · by_cases hmay : mayH m h
      · rw [if_pos ⟨hmay, c9⟩]; exact rrDrop_9 m h w B b vw s hm hz cr' hmay c9
      · rw [if_neg (fun e => hmay e.1)]; exact rrDrop_9n m h w B b vw s hm hz cr' hmay c9
    · rw [if_neg (fun e => c9 e.2)]
      by_cases hmay : mayH m h
      · exact rrDrop_q m h w B b vw s hm hz cr' hmay c9
      · exact rrDrop_qn m h w B b vw s hm hz cr' hmay c9

end Go.Proofs.Ytmcmajndcbobpaa
