/-
  THE CONTRACT of the document's McsTake.
-/
import Derived.Test.YtmcmajndcbobpaaMcsR
namespace Go.Proofs.Ytmcmajndcbobpaa
open Go.RowKit
attribute [local go_sem] Later.cell Later.frozen

set_option maxRecDepth 100000 in
set_option maxHeartbeats 4000000 in
theorem rmTake_no (m : PM) (h : HD) (w : World) (B b : Nat) (vw : Value) (s : MS) (hm : Ref w B b vw s) (hz : m.size ≤ (s.zs.length : Int)) (hmay : ¬ mayH m h) :
    Calls Try.prog 43 #[m.v, .pointer (some ⟨b, 0, none⟩), h.v] w (HandRet 74 2 h s B b vw w) := by
  have HST := hid (TkAt.start 74 29 2 m h h0 hm)
  have HOLD := hid hm.hold
  have HMY := hid (fun (x : World) => rMayH_any m h x)
  have hy1 := mayHB_no hmay
  simp only [hy1] at HMY
  clear hy1
  clear hmay hm hz
  obtain ⟨s1, ml, mt, c, d⟩ := m
  obtain ⟨ht, hl, hs, hr, hx⟩ := h
  show Calls _ _ #[.agg #[.int .i64 s1, .int .i64 ml, .int .i64 mt, .int .i64 c, .int .i64 d], _, .agg #[.int .i64 ht, .int .i64 hl, .int .i64 hs, .bool hr, .int .i64 hx]] _ _
  go_enter Try.func43, Try.ntmps43
  go_upto_region 1 with fail
  refine wp_rename _ HST.out ?_
  intro W hk
  have HK := hid hk
  obtain ⟨m0, m1, m2, m3, m4, _⟩ := hk.three.map.facts
  obtain ⟨d0, d1, d2, d3, d4, df⟩ := hk.three.box.facts
  obtain ⟨o0, o1, o2, o3, o4, of⟩ := hk.three.out.facts
  clear hk HST
  go_wp2_with ((go_at_call 37; (with_reducible refine (HMY.out _).mono ?_); rintro e w1 ⟨rfl, hb1⟩; have HK := hid (HK.out.below hb1); clear hb1; clear m0 m1 m2 m3 m4 d0 d1 d2 d3 d4 df o0 o1 o2 o3 o4 of; obtain ⟨m0, m1, m2, m3, m4, _⟩ := HK.out.three.map.facts; obtain ⟨d0, d1, d2, d3, d4, df⟩ := HK.out.three.box.facts; obtain ⟨o0, o1, o2, o3, o4, of⟩ := HK.out.three.out.facts))
  refine bodyPost_ret (v := (HD.mk ht hl hs hr hx).v) (by simp [results, Try.results43, go_sem, o0, o1, o2, o3, o4, of]) rfl ?_
  exact HK.out.done HOLD.out _ _ rfl rfl rfl _ _ _ _ _

set_option maxRecDepth 100000 in
set_option maxHeartbeats 4000000 in
theorem rmTake_0 (m : PM) (h : HD) (w : World) (B b : Nat) (vw : Value) (s : MS) (hm : Ref w B b vw s) (hz : m.size ≤ (s.zs.length : Int)) (hmay : mayH m h) (hsv : h.s = 0) :
    Calls Try.prog 43 #[m.v, .pointer (some ⟨b, 0, none⟩), h.v] w (HandRet 74 2 ⟨h.t, h.l, 1, h.rd, h.x⟩ (s.stored (m.node h.t h.l 0) 1) B b vw w) := by
  have HST := hid (TkAt.start 74 29 2 m h h0 hm)
  have HOLD := hid hm.hold
  have HMY := hid (fun (x : World) => rMayH_any m h x)
  have hy1 := mayHB_yes hmay
  simp only [hy1] at HMY
  clear hy1
  have HN0 := hid (fun (x : World) => refNode_any m h.t h.l 0 x)
  have HN1 := hid (fun (x : World) => refNode_any m h.t h.l 1 x)
  have HLK := hid (fun (x : World) => refLock_any m h.l 0 x)
  have HIX := hid (fun (x : World) => rId_any m h.t h.l x)
  have ho := hmay.1
  have HMO := hid (fun (x : World) (hb : Ref x B b vw s) => rStore_at (m.node h.t h.l 0) 1 x B b vw s hb)
  clear hmay ho hm hz
  generalize idF m h.t h.l = i at *
  generalize m.node h.t h.l 0 = g0 at *
  generalize m.node h.t h.l 1 = l0 at *
  generalize m.at_ 3 h.l 0 = p at *
  generalize s.eAt g0 = ee at *
  obtain ⟨s1, ml, mt, c, d⟩ := m
  obtain ⟨ht, hl, hs, hr, hx⟩ := h
  simp only at hsv
  subst hsv
  show Calls _ _ #[.agg #[.int .i64 s1, .int .i64 ml, .int .i64 mt, .int .i64 c, .int .i64 d], _, .agg #[.int .i64 ht, .int .i64 hl, .int .i64 0, .bool hr, .int .i64 hx]] _ _
  go_enter Try.func43, Try.ntmps43
  go_upto_region 1 with fail
  refine wp_rename _ HST.out ?_
  intro W hk
  have HK := hid hk
  obtain ⟨m0, m1, m2, m3, m4, _⟩ := hk.three.map.facts
  obtain ⟨d0, d1, d2, d3, d4, df⟩ := hk.three.box.facts
  obtain ⟨o0, o1, o2, o3, o4, of⟩ := hk.three.out.facts
  clear hk HST
  go_upto_region 3 with (go_at_call 37; (with_reducible refine (HMY.out _).mono ?_); rintro e w1 ⟨rfl, hb1⟩; have HK := hid (HK.out.below hb1); clear hb1; clear m0 m1 m2 m3 m4 d0 d1 d2 d3 d4 df o0 o1 o2 o3 o4 of; obtain ⟨m0, m1, m2, m3, m4, _⟩ := HK.out.three.map.facts; obtain ⟨d0, d1, d2, d3, d4, df⟩ := HK.out.three.box.facts; obtain ⟨o0, o1, o2, o3, o4, of⟩ := HK.out.three.out.facts)
  have z0 := HK.out.three.map.lt
  have z1 := HK.out.three.box.lt
  refine wp_region_later (by kernel_rfl) (by kernel_rfl) ?_
  repeat (go_big_quiet_step (first | (go_at_call 13; with_reducible exact later_call (HN0.out _)) | (go_at_call 13; with_reducible exact later_call (HN1.out _))))
  refine wpQuiet_nil ?_
  rintro _ ⟨xq3, rfl⟩
  have HK := hid (HK.out.below xq3.below)
  clear m0 m1 m2 m3 m4 d0 d1 d2 d3 d4 df o0 o1 o2 o3 o4 of
  obtain ⟨m0, m1, m2, m3, m4, _⟩ := HK.out.three.map.facts
  obtain ⟨d0, d1, d2, d3, d4, df⟩ := HK.out.three.box.facts
  obtain ⟨o0, o1, o2, o3, o4, of⟩ := HK.out.three.out.facts
  clear z0 z1
  have z0 := HK.out.three.map.lt
  have z1 := HK.out.three.box.lt
  go_upto_region 4 with fail
  refine wp_region_later (by kernel_rfl) (by kernel_rfl) ?_
  repeat (go_big_quiet_step (first | (go_at_call 12; with_reducible exact later_call (HLK.out _)) | (go_at_call 62; with_reducible exact later_call (HIX.out _))))
  refine wpQuiet_nil ?_
  rintro _ ⟨xq4, rfl⟩
  have HK := hid (HK.out.below xq4.below)
  clear m0 m1 m2 m3 m4 d0 d1 d2 d3 d4 df o0 o1 o2 o3 o4 of
  obtain ⟨m0, m1, m2, m3, m4, _⟩ := HK.out.three.map.facts
  obtain ⟨d0, d1, d2, d3, d4, df⟩ := HK.out.three.box.facts
  obtain ⟨o0, o1, o2, o3, o4, of⟩ := HK.out.three.out.facts
  clear z0 z1
  go_wp2_with ((go_at_call 64; (with_reducible refine (HMO.out _ HK.out.mem).mono ?_); rintro e w4 ⟨rfl, hm4, hw4⟩; have HK := hid (HK.out.next hm4 hw4 HOLD.out); clear hm4 hw4; clear m0 m1 m2 m3 m4 d0 d1 d2 d3 d4 df o0 o1 o2 o3 o4 of; obtain ⟨m0, m1, m2, m3, m4, _⟩ := HK.out.three.map.facts; obtain ⟨d0, d1, d2, d3, d4, df⟩ := HK.out.three.box.facts; obtain ⟨o0, o1, o2, o3, o4, of⟩ := HK.out.three.out.facts))
  refine bodyPost_ret (v := (HD.mk ht hl 1 hr hx).v) (by simp [results, Try.results43, go_sem, o0, o1, o2, o3, o4, of]) rfl ?_
  exact (HK.out.setS HOLD.out 1).done HOLD.out _ _ rfl rfl rfl _ _ _ _ _

set_option maxRecDepth 100000 in
set_option maxHeartbeats 4000000 in
theorem rmTake_1 (m : PM) (h : HD) (w : World) (B b : Nat) (vw : Value) (s : MS) (hm : Ref w B b vw s) (hz : m.size ≤ (s.zs.length : Int)) (hmay : mayH m h) (hsv : h.s = 1) :
    Calls Try.prog 43 #[m.v, .pointer (some ⟨b, 0, none⟩), h.v] w (HandRet 74 2 ⟨h.t, h.l, 2, h.rd, h.x⟩ (s.stored (m.node h.t h.l 1) 0) B b vw w) := by
  have HST := hid (TkAt.start 74 29 2 m h h0 hm)
  have HOLD := hid hm.hold
  have HMY := hid (fun (x : World) => rMayH_any m h x)
  have hy1 := mayHB_yes hmay
  simp only [hy1] at HMY
  clear hy1
  have HN0 := hid (fun (x : World) => refNode_any m h.t h.l 0 x)
  have HN1 := hid (fun (x : World) => refNode_any m h.t h.l 1 x)
  have HLK := hid (fun (x : World) => refLock_any m h.l 0 x)
  have HIX := hid (fun (x : World) => rId_any m h.t h.l x)
  have ho := hmay.1
  have HMO := hid (fun (x : World) (hb : Ref x B b vw s) => rStore_at (m.node h.t h.l 1) 0 x B b vw s hb)
  clear hmay ho hm hz
  generalize idF m h.t h.l = i at *
  generalize m.node h.t h.l 0 = g0 at *
  generalize m.node h.t h.l 1 = l0 at *
  generalize m.at_ 3 h.l 0 = p at *
  generalize s.eAt l0 = ee at *
  obtain ⟨s1, ml, mt, c, d⟩ := m
  obtain ⟨ht, hl, hs, hr, hx⟩ := h
  simp only at hsv
  subst hsv
  show Calls _ _ #[.agg #[.int .i64 s1, .int .i64 ml, .int .i64 mt, .int .i64 c, .int .i64 d], _, .agg #[.int .i64 ht, .int .i64 hl, .int .i64 1, .bool hr, .int .i64 hx]] _ _
  go_enter Try.func43, Try.ntmps43
  go_upto_region 1 with fail
  refine wp_rename _ HST.out ?_
  intro W hk
  have HK := hid hk
  obtain ⟨m0, m1, m2, m3, m4, _⟩ := hk.three.map.facts
  obtain ⟨d0, d1, d2, d3, d4, df⟩ := hk.three.box.facts
  obtain ⟨o0, o1, o2, o3, o4, of⟩ := hk.three.out.facts
  clear hk HST
  go_upto_region 3 with (go_at_call 37; (with_reducible refine (HMY.out _).mono ?_); rintro e w1 ⟨rfl, hb1⟩; have HK := hid (HK.out.below hb1); clear hb1; clear m0 m1 m2 m3 m4 d0 d1 d2 d3 d4 df o0 o1 o2 o3 o4 of; obtain ⟨m0, m1, m2, m3, m4, _⟩ := HK.out.three.map.facts; obtain ⟨d0, d1, d2, d3, d4, df⟩ := HK.out.three.box.facts; obtain ⟨o0, o1, o2, o3, o4, of⟩ := HK.out.three.out.facts)
  have z0 := HK.out.three.map.lt
  have z1 := HK.out.three.box.lt
  refine wp_region_later (by kernel_rfl) (by kernel_rfl) ?_
  repeat (go_big_quiet_step (first | (go_at_call 13; with_reducible exact later_call (HN0.out _)) | (go_at_call 13; with_reducible exact later_call (HN1.out _))))
  refine wpQuiet_nil ?_
  rintro _ ⟨xq3, rfl⟩
  have HK := hid (HK.out.below xq3.below)
  clear m0 m1 m2 m3 m4 d0 d1 d2 d3 d4 df o0 o1 o2 o3 o4 of
  obtain ⟨m0, m1, m2, m3, m4, _⟩ := HK.out.three.map.facts
  obtain ⟨d0, d1, d2, d3, d4, df⟩ := HK.out.three.box.facts
  obtain ⟨o0, o1, o2, o3, o4, of⟩ := HK.out.three.out.facts
  clear z0 z1
  have z0 := HK.out.three.map.lt
  have z1 := HK.out.three.box.lt
  go_upto_region 4 with fail
  refine wp_region_later (by kernel_rfl) (by kernel_rfl) ?_
  repeat (go_big_quiet_step (first | (go_at_call 12; with_reducible exact later_call (HLK.out _)) | (go_at_call 62; with_reducible exact later_call (HIX.out _))))
  refine wpQuiet_nil ?_
  rintro _ ⟨xq4, rfl⟩
  have HK := hid (HK.out.below xq4.below)
  clear m0 m1 m2 m3 m4 d0 d1 d2 d3 d4 df o0 o1 o2 o3 o4 of
  obtain ⟨m0, m1, m2, m3, m4, _⟩ := HK.out.three.map.facts
  obtain ⟨d0, d1, d2, d3, d4, df⟩ := HK.out.three.box.facts
  obtain ⟨o0, o1, o2, o3, o4, of⟩ := HK.out.three.out.facts
  clear z0 z1
  go_wp2_with ((go_at_call 64; (with_reducible refine (HMO.out _ HK.out.mem).mono ?_); rintro e w4 ⟨rfl, hm4, hw4⟩; have HK := hid (HK.out.next hm4 hw4 HOLD.out); clear hm4 hw4; clear m0 m1 m2 m3 m4 d0 d1 d2 d3 d4 df o0 o1 o2 o3 o4 of; obtain ⟨m0, m1, m2, m3, m4, _⟩ := HK.out.three.map.facts; obtain ⟨d0, d1, d2, d3, d4, df⟩ := HK.out.three.box.facts; obtain ⟨o0, o1, o2, o3, o4, of⟩ := HK.out.three.out.facts))
  refine bodyPost_ret (v := (HD.mk ht hl 2 hr hx).v) (by simp [results, Try.results43, go_sem, o0, o1, o2, o3, o4, of]) rfl ?_
  exact (HK.out.setS HOLD.out 2).done HOLD.out _ _ rfl rfl rfl _ _ _ _ _

set_option maxRecDepth 100000 in
set_option maxHeartbeats 4000000 in
theorem rmTake_2 (m : PM) (h : HD) (w : World) (B b : Nat) (vw : Value) (s : MS) (hm : Ref w B b vw s) (hz : m.size ≤ (s.zs.length : Int)) (hmay : mayH m h) (hsv : h.s = 2) :
    Calls Try.prog 43 #[m.v, .pointer (some ⟨b, 0, none⟩), h.v] w (HandRet 74 2 ⟨h.t, h.l, 3, h.rd, s.vAt (m.at_ 3 h.l 0)⟩ (s.loaded (m.at_ 3 h.l 0)) B b vw w) := by
  have HST := hid (TkAt.start 74 29 2 m h h0 hm)
  have HOLD := hid hm.hold
  have HMY := hid (fun (x : World) => rMayH_any m h x)
  have hy1 := mayHB_yes hmay
  simp only [hy1] at HMY
  clear hy1
  have HN0 := hid (fun (x : World) => refNode_any m h.t h.l 0 x)
  have HN1 := hid (fun (x : World) => refNode_any m h.t h.l 1 x)
  have HLK := hid (fun (x : World) => refLock_any m h.l 0 x)
  have HIX := hid (fun (x : World) => rId_any m h.t h.l x)
  have ho := hmay.1
  have HMO := hid (fun (x : World) (hb : Ref x B b vw s) => rLoad_at (m.at_ 3 h.l 0) x B b vw s hb)
  clear hmay ho hm hz
  generalize idF m h.t h.l = i at *
  generalize m.node h.t h.l 0 = g0 at *
  generalize m.node h.t h.l 1 = l0 at *
  generalize m.at_ 3 h.l 0 = p at *
  generalize s.eAt p = ee at *
  generalize s.vAt p = y at *
  obtain ⟨s1, ml, mt, c, d⟩ := m
  obtain ⟨ht, hl, hs, hr, hx⟩ := h
  simp only at hsv
  subst hsv
  show Calls _ _ #[.agg #[.int .i64 s1, .int .i64 ml, .int .i64 mt, .int .i64 c, .int .i64 d], _, .agg #[.int .i64 ht, .int .i64 hl, .int .i64 2, .bool hr, .int .i64 hx]] _ _
  go_enter Try.func43, Try.ntmps43
  go_upto_region 1 with fail
  refine wp_rename _ HST.out ?_
  intro W hk
  have HK := hid hk
  obtain ⟨m0, m1, m2, m3, m4, _⟩ := hk.three.map.facts
  obtain ⟨d0, d1, d2, d3, d4, df⟩ := hk.three.box.facts
  obtain ⟨o0, o1, o2, o3, o4, of⟩ := hk.three.out.facts
  clear hk HST
  go_upto_region 3 with (go_at_call 37; (with_reducible refine (HMY.out _).mono ?_); rintro e w1 ⟨rfl, hb1⟩; have HK := hid (HK.out.below hb1); clear hb1; clear m0 m1 m2 m3 m4 d0 d1 d2 d3 d4 df o0 o1 o2 o3 o4 of; obtain ⟨m0, m1, m2, m3, m4, _⟩ := HK.out.three.map.facts; obtain ⟨d0, d1, d2, d3, d4, df⟩ := HK.out.three.box.facts; obtain ⟨o0, o1, o2, o3, o4, of⟩ := HK.out.three.out.facts)
  have z0 := HK.out.three.map.lt
  have z1 := HK.out.three.box.lt
  refine wp_region_later (by kernel_rfl) (by kernel_rfl) ?_
  repeat (go_big_quiet_step (first | (go_at_call 13; with_reducible exact later_call (HN0.out _)) | (go_at_call 13; with_reducible exact later_call (HN1.out _))))
  refine wpQuiet_nil ?_
  rintro _ ⟨xq3, rfl⟩
  have HK := hid (HK.out.below xq3.below)
  clear m0 m1 m2 m3 m4 d0 d1 d2 d3 d4 df o0 o1 o2 o3 o4 of
  obtain ⟨m0, m1, m2, m3, m4, _⟩ := HK.out.three.map.facts
  obtain ⟨d0, d1, d2, d3, d4, df⟩ := HK.out.three.box.facts
  obtain ⟨o0, o1, o2, o3, o4, of⟩ := HK.out.three.out.facts
  clear z0 z1
  have z0 := HK.out.three.map.lt
  have z1 := HK.out.three.box.lt
  go_upto_region 4 with fail
  refine wp_region_later (by kernel_rfl) (by kernel_rfl) ?_
  repeat (go_big_quiet_step (first | (go_at_call 12; with_reducible exact later_call (HLK.out _)) | (go_at_call 62; with_reducible exact later_call (HIX.out _))))
  refine wpQuiet_nil ?_
  rintro _ ⟨xq4, rfl⟩
  have HK := hid (HK.out.below xq4.below)
  clear m0 m1 m2 m3 m4 d0 d1 d2 d3 d4 df o0 o1 o2 o3 o4 of
  obtain ⟨m0, m1, m2, m3, m4, _⟩ := HK.out.three.map.facts
  obtain ⟨d0, d1, d2, d3, d4, df⟩ := HK.out.three.box.facts
  obtain ⟨o0, o1, o2, o3, o4, of⟩ := HK.out.three.out.facts
  clear z0 z1
  go_wp2_with ((go_at_call 44; (with_reducible refine (HMO.out _ HK.out.mem).mono ?_); rintro e w4 ⟨rfl, hm4, hw4⟩; have HK := hid (HK.out.next hm4 hw4 HOLD.out); clear hm4 hw4; clear m0 m1 m2 m3 m4 d0 d1 d2 d3 d4 df o0 o1 o2 o3 o4 of; obtain ⟨m0, m1, m2, m3, m4, _⟩ := HK.out.three.map.facts; obtain ⟨d0, d1, d2, d3, d4, df⟩ := HK.out.three.box.facts; obtain ⟨o0, o1, o2, o3, o4, of⟩ := HK.out.three.out.facts))
  refine bodyPost_ret (v := (HD.mk ht hl 3 hr y).v) (by simp [results, Try.results43, go_sem, o0, o1, o2, o3, o4, of]) rfl ?_
  exact ((HK.out.setX HOLD.out y).setS HOLD.out 3).done HOLD.out _ _ rfl rfl rfl _ _ _ _ _

set_option maxRecDepth 100000 in
set_option maxHeartbeats 4000000 in
theorem rmTake_3a (m : PM) (h : HD) (w : World) (B b : Nat) (vw : Value) (s : MS) (hm : Ref w B b vw s) (hz : m.size ≤ (s.zs.length : Int)) (hmay : mayH m h) (hsv : h.s = 3) (hy : s.vAt (m.at_ 3 h.l 0) = h.x) (hx0 : h.x = 0) :
    Calls Try.prog 43 #[m.v, .pointer (some ⟨b, 0, none⟩), h.v] w (HandRet 74 2 ⟨h.t, h.l, 9, h.rd, h.x⟩ (s.swapped (m.at_ 3 h.l 0) h.x (idF m h.t h.l)) B b vw w) := by
  have HST := hid (TkAt.start 74 29 2 m h h0 hm)
  have HOLD := hid hm.hold
  have HMY := hid (fun (x : World) => rMayH_any m h x)
  have hy1 := mayHB_yes hmay
  simp only [hy1] at HMY
  clear hy1
  have HN0 := hid (fun (x : World) => refNode_any m h.t h.l 0 x)
  have HN1 := hid (fun (x : World) => refNode_any m h.t h.l 1 x)
  have HLK := hid (fun (x : World) => refLock_any m h.l 0 x)
  have HIX := hid (fun (x : World) => rId_any m h.t h.l x)
  have ho := hmay.1
  have hp := lock_in hmay (p := 0) (by decide) (by decide)
  have hok := MS.okAt_in (s := s) (p := m.at_ 3 h.l 0) (o := h.x) hp.2.1 (by omega)
  have HMO := hid (fun (x : World) (hb : Ref x B b vw s) => rSwap_at (m.at_ 3 h.l 0) h.x (idF m h.t h.l) x B b vw s hb)
  simp only [hok] at HMO
  simp only [decide_eq_true hy] at HMO
  clear hp hok
  clear hmay ho hm hz
  generalize idF m h.t h.l = i at *
  generalize m.node h.t h.l 0 = g0 at *
  generalize m.node h.t h.l 1 = l0 at *
  generalize m.at_ 3 h.l 0 = p at *
  generalize s.eAt p = ee at *
  generalize hsv3 : s.vAt p = y at *
  clear hsv3
  obtain ⟨s1, ml, mt, c, d⟩ := m
  obtain ⟨ht, hl, hs, hr, hx⟩ := h
  simp only at hsv hx0 hy
  subst hx0
  subst hsv
  show Calls _ _ #[.agg #[.int .i64 s1, .int .i64 ml, .int .i64 mt, .int .i64 c, .int .i64 d], _, .agg #[.int .i64 ht, .int .i64 hl, .int .i64 3, .bool hr, .int .i64 0]] _ _
  go_enter Try.func43, Try.ntmps43
  go_upto_region 1 with fail
  refine wp_rename _ HST.out ?_
  intro W hk
  have HK := hid hk
  obtain ⟨m0, m1, m2, m3, m4, _⟩ := hk.three.map.facts
  obtain ⟨d0, d1, d2, d3, d4, df⟩ := hk.three.box.facts
  obtain ⟨o0, o1, o2, o3, o4, of⟩ := hk.three.out.facts
  clear hk HST
  go_upto_region 3 with (go_at_call 37; (with_reducible refine (HMY.out _).mono ?_); rintro e w1 ⟨rfl, hb1⟩; have HK := hid (HK.out.below hb1); clear hb1; clear m0 m1 m2 m3 m4 d0 d1 d2 d3 d4 df o0 o1 o2 o3 o4 of; obtain ⟨m0, m1, m2, m3, m4, _⟩ := HK.out.three.map.facts; obtain ⟨d0, d1, d2, d3, d4, df⟩ := HK.out.three.box.facts; obtain ⟨o0, o1, o2, o3, o4, of⟩ := HK.out.three.out.facts)
  have z0 := HK.out.three.map.lt
  have z1 := HK.out.three.box.lt
  refine wp_region_later (by kernel_rfl) (by kernel_rfl) ?_
  repeat (go_big_quiet_step (first | (go_at_call 13; with_reducible exact later_call (HN0.out _)) | (go_at_call 13; with_reducible exact later_call (HN1.out _))))
  refine wpQuiet_nil ?_
  rintro _ ⟨xq3, rfl⟩
  have HK := hid (HK.out.below xq3.below)
  clear m0 m1 m2 m3 m4 d0 d1 d2 d3 d4 df o0 o1 o2 o3 o4 of
  obtain ⟨m0, m1, m2, m3, m4, _⟩ := HK.out.three.map.facts
  obtain ⟨d0, d1, d2, d3, d4, df⟩ := HK.out.three.box.facts
  obtain ⟨o0, o1, o2, o3, o4, of⟩ := HK.out.three.out.facts
  clear z0 z1
  have z0 := HK.out.three.map.lt
  have z1 := HK.out.three.box.lt
  go_upto_region 4 with fail
  refine wp_region_later (by kernel_rfl) (by kernel_rfl) ?_
  repeat (go_big_quiet_step (first | (go_at_call 12; with_reducible exact later_call (HLK.out _)) | (go_at_call 62; with_reducible exact later_call (HIX.out _))))
  refine wpQuiet_nil ?_
  rintro _ ⟨xq4, rfl⟩
  have HK := hid (HK.out.below xq4.below)
  clear m0 m1 m2 m3 m4 d0 d1 d2 d3 d4 df o0 o1 o2 o3 o4 of
  obtain ⟨m0, m1, m2, m3, m4, _⟩ := HK.out.three.map.facts
  obtain ⟨d0, d1, d2, d3, d4, df⟩ := HK.out.three.box.facts
  obtain ⟨o0, o1, o2, o3, o4, of⟩ := HK.out.three.out.facts
  clear z0 z1
  go_wp2_with ((go_at_call 61; (with_reducible refine (HMO.out _ HK.out.mem).mono ?_); rintro e w4 ⟨rfl, hm4, hw4⟩; have HK := hid (HK.out.next hm4 hw4 HOLD.out); clear hm4 hw4; clear m0 m1 m2 m3 m4 d0 d1 d2 d3 d4 df o0 o1 o2 o3 o4 of; obtain ⟨m0, m1, m2, m3, m4, _⟩ := HK.out.three.map.facts; obtain ⟨d0, d1, d2, d3, d4, df⟩ := HK.out.three.box.facts; obtain ⟨o0, o1, o2, o3, o4, of⟩ := HK.out.three.out.facts))
  refine bodyPost_ret (v := (HD.mk ht hl 9 hr 0).v) (by simp [results, Try.results43, go_sem, o0, o1, o2, o3, o4, of]) rfl ?_
  exact (HK.out.setS HOLD.out 9).done HOLD.out _ _ rfl rfl rfl _ _ _ _ _

set_option maxRecDepth 100000 in
set_option maxHeartbeats 4000000 in
theorem rmTake_3b (m : PM) (h : HD) (w : World) (B b : Nat) (vw : Value) (s : MS) (hm : Ref w B b vw s) (hz : m.size ≤ (s.zs.length : Int)) (hmay : mayH m h) (hsv : h.s = 3) (hy : s.vAt (m.at_ 3 h.l 0) = h.x) (hx0 : ¬ h.x = 0) :
    Calls Try.prog 43 #[m.v, .pointer (some ⟨b, 0, none⟩), h.v] w (HandRet 74 2 ⟨h.t, h.l, 4, h.rd, h.x⟩ (s.swapped (m.at_ 3 h.l 0) h.x (idF m h.t h.l)) B b vw w) := by
  have HST := hid (TkAt.start 74 29 2 m h h0 hm)
  have HOLD := hid hm.hold
  have HMY := hid (fun (x : World) => rMayH_any m h x)
  have hy1 := mayHB_yes hmay
  simp only [hy1] at HMY
  clear hy1
  have HN0 := hid (fun (x : World) => refNode_any m h.t h.l 0 x)
  have HN1 := hid (fun (x : World) => refNode_any m h.t h.l 1 x)
  have HLK := hid (fun (x : World) => refLock_any m h.l 0 x)
  have HIX := hid (fun (x : World) => rId_any m h.t h.l x)
  have ho := hmay.1
  have hp := lock_in hmay (p := 0) (by decide) (by decide)
  have hok := MS.okAt_in (s := s) (p := m.at_ 3 h.l 0) (o := h.x) hp.2.1 (by omega)
  have HMO := hid (fun (x : World) (hb : Ref x B b vw s) => rSwap_at (m.at_ 3 h.l 0) h.x (idF m h.t h.l) x B b vw s hb)
  simp only [hok] at HMO
  simp only [decide_eq_true hy] at HMO
  clear hp hok
  clear hmay ho hm hz
  generalize idF m h.t h.l = i at *
  generalize m.node h.t h.l 0 = g0 at *
  generalize m.node h.t h.l 1 = l0 at *
  generalize m.at_ 3 h.l 0 = p at *
  generalize s.eAt p = ee at *
  generalize hsv3 : s.vAt p = y at *
  clear hsv3
  obtain ⟨s1, ml, mt, c, d⟩ := m
  obtain ⟨ht, hl, hs, hr, hx⟩ := h
  simp only at hsv hx0 hy
  subst hsv
  show Calls _ _ #[.agg #[.int .i64 s1, .int .i64 ml, .int .i64 mt, .int .i64 c, .int .i64 d], _, .agg #[.int .i64 ht, .int .i64 hl, .int .i64 3, .bool hr, .int .i64 hx]] _ _
  go_enter Try.func43, Try.ntmps43
  go_upto_region 1 with fail
  refine wp_rename _ HST.out ?_
  intro W hk
  have HK := hid hk
  obtain ⟨m0, m1, m2, m3, m4, _⟩ := hk.three.map.facts
  obtain ⟨d0, d1, d2, d3, d4, df⟩ := hk.three.box.facts
  obtain ⟨o0, o1, o2, o3, o4, of⟩ := hk.three.out.facts
  clear hk HST
  go_upto_region 3 with (go_at_call 37; (with_reducible refine (HMY.out _).mono ?_); rintro e w1 ⟨rfl, hb1⟩; have HK := hid (HK.out.below hb1); clear hb1; clear m0 m1 m2 m3 m4 d0 d1 d2 d3 d4 df o0 o1 o2 o3 o4 of; obtain ⟨m0, m1, m2, m3, m4, _⟩ := HK.out.three.map.facts; obtain ⟨d0, d1, d2, d3, d4, df⟩ := HK.out.three.box.facts; obtain ⟨o0, o1, o2, o3, o4, of⟩ := HK.out.three.out.facts)
  have z0 := HK.out.three.map.lt
  have z1 := HK.out.three.box.lt
  refine wp_region_later (by kernel_rfl) (by kernel_rfl) ?_
  repeat (go_big_quiet_step (first | (go_at_call 13; with_reducible exact later_call (HN0.out _)) | (go_at_call 13; with_reducible exact later_call (HN1.out _))))
  refine wpQuiet_nil ?_
  rintro _ ⟨xq3, rfl⟩
  have HK := hid (HK.out.below xq3.below)
  clear m0 m1 m2 m3 m4 d0 d1 d2 d3 d4 df o0 o1 o2 o3 o4 of
  obtain ⟨m0, m1, m2, m3, m4, _⟩ := HK.out.three.map.facts
  obtain ⟨d0, d1, d2, d3, d4, df⟩ := HK.out.three.box.facts
  obtain ⟨o0, o1, o2, o3, o4, of⟩ := HK.out.three.out.facts
  clear z0 z1
  have z0 := HK.out.three.map.lt
  have z1 := HK.out.three.box.lt
  go_upto_region 4 with fail
  refine wp_region_later (by kernel_rfl) (by kernel_rfl) ?_
  repeat (go_big_quiet_step (first | (go_at_call 12; with_reducible exact later_call (HLK.out _)) | (go_at_call 62; with_reducible exact later_call (HIX.out _))))
  refine wpQuiet_nil ?_
  rintro _ ⟨xq4, rfl⟩
  have HK := hid (HK.out.below xq4.below)
  clear m0 m1 m2 m3 m4 d0 d1 d2 d3 d4 df o0 o1 o2 o3 o4 of
  obtain ⟨m0, m1, m2, m3, m4, _⟩ := HK.out.three.map.facts
  obtain ⟨d0, d1, d2, d3, d4, df⟩ := HK.out.three.box.facts
  obtain ⟨o0, o1, o2, o3, o4, of⟩ := HK.out.three.out.facts
  clear z0 z1
  go_wp2_with ((go_at_call 61; (with_reducible refine (HMO.out _ HK.out.mem).mono ?_); rintro e w4 ⟨rfl, hm4, hw4⟩; have HK := hid (HK.out.next hm4 hw4 HOLD.out); clear hm4 hw4; clear m0 m1 m2 m3 m4 d0 d1 d2 d3 d4 df o0 o1 o2 o3 o4 of; obtain ⟨m0, m1, m2, m3, m4, _⟩ := HK.out.three.map.facts; obtain ⟨d0, d1, d2, d3, d4, df⟩ := HK.out.three.box.facts; obtain ⟨o0, o1, o2, o3, o4, of⟩ := HK.out.three.out.facts))
  refine bodyPost_ret (v := (HD.mk ht hl 4 hr hx).v) (by simp [results, Try.results43, go_sem, o0, o1, o2, o3, o4, of]) rfl ?_
  exact (HK.out.setS HOLD.out 4).done HOLD.out _ _ rfl rfl rfl _ _ _ _ _

set_option maxRecDepth 100000 in
set_option maxHeartbeats 4000000 in
theorem rmTake_3c (m : PM) (h : HD) (w : World) (B b : Nat) (vw : Value) (s : MS) (hm : Ref w B b vw s) (hz : m.size ≤ (s.zs.length : Int)) (hmay : mayH m h) (hsv : h.s = 3) (hy : ¬ s.vAt (m.at_ 3 h.l 0) = h.x) :
    Calls Try.prog 43 #[m.v, .pointer (some ⟨b, 0, none⟩), h.v] w (HandRet 74 2 ⟨h.t, h.l, 3, h.rd, s.vAt (m.at_ 3 h.l 0)⟩ (s.swapped (m.at_ 3 h.l 0) h.x (idF m h.t h.l)) B b vw w) := by
  have HST := hid (TkAt.start 74 29 2 m h h0 hm)
  have HOLD := hid hm.hold
  have HMY := hid (fun (x : World) => rMayH_any m h x)
  have hy1 := mayHB_yes hmay
  simp only [hy1] at HMY
  clear hy1
  have HN0 := hid (fun (x : World) => refNode_any m h.t h.l 0 x)
  have HN1 := hid (fun (x : World) => refNode_any m h.t h.l 1 x)
  have HLK := hid (fun (x : World) => refLock_any m h.l 0 x)
  have HIX := hid (fun (x : World) => rId_any m h.t h.l x)
  have ho := hmay.1
  have hp := lock_in hmay (p := 0) (by decide) (by decide)
  have hok := MS.okAt_in (s := s) (p := m.at_ 3 h.l 0) (o := h.x) hp.2.1 (by omega)
  have HMO := hid (fun (x : World) (hb : Ref x B b vw s) => rSwap_at (m.at_ 3 h.l 0) h.x (idF m h.t h.l) x B b vw s hb)
  simp only [hok] at HMO
  simp only [decide_eq_false hy] at HMO
  clear hp hok
  clear hmay ho hm hz
  generalize idF m h.t h.l = i at *
  generalize m.node h.t h.l 0 = g0 at *
  generalize m.node h.t h.l 1 = l0 at *
  generalize m.at_ 3 h.l 0 = p at *
  generalize s.eAt p = ee at *
  generalize hsv3 : s.vAt p = y at *
  clear hsv3
  obtain ⟨s1, ml, mt, c, d⟩ := m
  obtain ⟨ht, hl, hs, hr, hx⟩ := h
  simp only at hsv
  subst hsv
  show Calls _ _ #[.agg #[.int .i64 s1, .int .i64 ml, .int .i64 mt, .int .i64 c, .int .i64 d], _, .agg #[.int .i64 ht, .int .i64 hl, .int .i64 3, .bool hr, .int .i64 hx]] _ _
  go_enter Try.func43, Try.ntmps43
  go_upto_region 1 with fail
  refine wp_rename _ HST.out ?_
  intro W hk
  have HK := hid hk
  obtain ⟨m0, m1, m2, m3, m4, _⟩ := hk.three.map.facts
  obtain ⟨d0, d1, d2, d3, d4, df⟩ := hk.three.box.facts
  obtain ⟨o0, o1, o2, o3, o4, of⟩ := hk.three.out.facts
  clear hk HST
  go_upto_region 3 with (go_at_call 37; (with_reducible refine (HMY.out _).mono ?_); rintro e w1 ⟨rfl, hb1⟩; have HK := hid (HK.out.below hb1); clear hb1; clear m0 m1 m2 m3 m4 d0 d1 d2 d3 d4 df o0 o1 o2 o3 o4 of; obtain ⟨m0, m1, m2, m3, m4, _⟩ := HK.out.three.map.facts; obtain ⟨d0, d1, d2, d3, d4, df⟩ := HK.out.three.box.facts; obtain ⟨o0, o1, o2, o3, o4, of⟩ := HK.out.three.out.facts)
  have z0 := HK.out.three.map.lt
  have z1 := HK.out.three.box.lt
  refine wp_region_later (by kernel_rfl) (by kernel_rfl) ?_
  repeat (go_big_quiet_step (first | (go_at_call 13; with_reducible exact later_call (HN0.out _)) | (go_at_call 13; with_reducible exact later_call (HN1.out _))))
  refine wpQuiet_nil ?_
  rintro _ ⟨xq3, rfl⟩
  have HK := hid (HK.out.below xq3.below)
  clear m0 m1 m2 m3 m4 d0 d1 d2 d3 d4 df o0 o1 o2 o3 o4 of
  obtain ⟨m0, m1, m2, m3, m4, _⟩ := HK.out.three.map.facts
  obtain ⟨d0, d1, d2, d3, d4, df⟩ := HK.out.three.box.facts
  obtain ⟨o0, o1, o2, o3, o4, of⟩ := HK.out.three.out.facts
  clear z0 z1
  have z0 := HK.out.three.map.lt
  have z1 := HK.out.three.box.lt
  go_upto_region 4 with fail
  refine wp_region_later (by kernel_rfl) (by kernel_rfl) ?_
  repeat (go_big_quiet_step (first | (go_at_call 12; with_reducible exact later_call (HLK.out _)) | (go_at_call 62; with_reducible exact later_call (HIX.out _))))
  refine wpQuiet_nil ?_
  rintro _ ⟨xq4, rfl⟩
  have HK := hid (HK.out.below xq4.below)
  clear m0 m1 m2 m3 m4 d0 d1 d2 d3 d4 df o0 o1 o2 o3 o4 of
  obtain ⟨m0, m1, m2, m3, m4, _⟩ := HK.out.three.map.facts
  obtain ⟨d0, d1, d2, d3, d4, df⟩ := HK.out.three.box.facts
  obtain ⟨o0, o1, o2, o3, o4, of⟩ := HK.out.three.out.facts
  clear z0 z1
  go_wp2_with ((go_at_call 61; (with_reducible refine (HMO.out _ HK.out.mem).mono ?_); rintro e w4 ⟨rfl, hm4, hw4⟩; have HK := hid (HK.out.next hm4 hw4 HOLD.out); clear hm4 hw4; clear m0 m1 m2 m3 m4 d0 d1 d2 d3 d4 df o0 o1 o2 o3 o4 of; obtain ⟨m0, m1, m2, m3, m4, _⟩ := HK.out.three.map.facts; obtain ⟨d0, d1, d2, d3, d4, df⟩ := HK.out.three.box.facts; obtain ⟨o0, o1, o2, o3, o4, of⟩ := HK.out.three.out.facts))
  refine bodyPost_ret (v := (HD.mk ht hl 3 hr y).v) (by simp [results, Try.results43, go_sem, o0, o1, o2, o3, o4, of]) rfl ?_
  exact (HK.out.setX HOLD.out y).done HOLD.out _ _ rfl rfl rfl _ _ _ _ _

set_option maxRecDepth 100000 in
set_option maxHeartbeats 4000000 in
theorem rmTake_4 (m : PM) (h : HD) (w : World) (B b : Nat) (vw : Value) (s : MS) (hm : Ref w B b vw s) (hz : m.size ≤ (s.zs.length : Int)) (hmay : mayH m h) (hsv : h.s = 4) (hpos : 0 ≤ nodeF m h.l h.x 1) :
    Calls Try.prog 43 #[m.v, .pointer (some ⟨b, 0, none⟩), h.v] w (HandRet 74 2 ⟨h.t, h.l, 5, h.rd, 0⟩ (s.stored (nodeF m h.l h.x 1) (idF m h.t h.l)) B b vw w) := by
  have HST := hid (TkAt.start 74 29 2 m h h0 hm)
  have HOLD := hid hm.hold
  have HMY := hid (fun (x : World) => rMayH_any m h x)
  have hy1 := mayHB_yes hmay
  simp only [hy1] at HMY
  clear hy1
  have HN0 := hid (fun (x : World) => refNode_any m h.t h.l 0 x)
  have HN1 := hid (fun (x : World) => refNode_any m h.t h.l 1 x)
  have HLK := hid (fun (x : World) => refLock_any m h.l 0 x)
  have HIX := hid (fun (x : World) => rId_any m h.t h.l x)
  have ho := hmay.1
  have HND := hid (fun (x : World) => rnode_any m h.l h.x 1 x ho)
  have HMO := hid (fun (x : World) (hb : Ref x B b vw s) => rStore_at (nodeF m h.l h.x 1) (idF m h.t h.l) x B b vw s hb)
  clear hmay ho hm hz
  generalize idF m h.t h.l = i at *
  generalize m.node h.t h.l 0 = g0 at *
  generalize m.node h.t h.l 1 = l0 at *
  generalize m.at_ 3 h.l 0 = p at *
  generalize nodeF m h.l h.x 1 = q at *
  generalize s.eAt q = ee at *
  obtain ⟨s1, ml, mt, c, d⟩ := m
  obtain ⟨ht, hl, hs, hr, hx⟩ := h
  simp only at hsv
  subst hsv
  show Calls _ _ #[.agg #[.int .i64 s1, .int .i64 ml, .int .i64 mt, .int .i64 c, .int .i64 d], _, .agg #[.int .i64 ht, .int .i64 hl, .int .i64 4, .bool hr, .int .i64 hx]] _ _
  go_enter Try.func43, Try.ntmps43
  go_upto_region 1 with fail
  refine wp_rename _ HST.out ?_
  intro W hk
  have HK := hid hk
  obtain ⟨m0, m1, m2, m3, m4, _⟩ := hk.three.map.facts
  obtain ⟨d0, d1, d2, d3, d4, df⟩ := hk.three.box.facts
  obtain ⟨o0, o1, o2, o3, o4, of⟩ := hk.three.out.facts
  clear hk HST
  go_upto_region 3 with (go_at_call 37; (with_reducible refine (HMY.out _).mono ?_); rintro e w1 ⟨rfl, hb1⟩; have HK := hid (HK.out.below hb1); clear hb1; clear m0 m1 m2 m3 m4 d0 d1 d2 d3 d4 df o0 o1 o2 o3 o4 of; obtain ⟨m0, m1, m2, m3, m4, _⟩ := HK.out.three.map.facts; obtain ⟨d0, d1, d2, d3, d4, df⟩ := HK.out.three.box.facts; obtain ⟨o0, o1, o2, o3, o4, of⟩ := HK.out.three.out.facts)
  have z0 := HK.out.three.map.lt
  have z1 := HK.out.three.box.lt
  refine wp_region_later (by kernel_rfl) (by kernel_rfl) ?_
  repeat (go_big_quiet_step (first | (go_at_call 13; with_reducible exact later_call (HN0.out _)) | (go_at_call 13; with_reducible exact later_call (HN1.out _))))
  refine wpQuiet_nil ?_
  rintro _ ⟨xq3, rfl⟩
  have HK := hid (HK.out.below xq3.below)
  clear m0 m1 m2 m3 m4 d0 d1 d2 d3 d4 df o0 o1 o2 o3 o4 of
  obtain ⟨m0, m1, m2, m3, m4, _⟩ := HK.out.three.map.facts
  obtain ⟨d0, d1, d2, d3, d4, df⟩ := HK.out.three.box.facts
  obtain ⟨o0, o1, o2, o3, o4, of⟩ := HK.out.three.out.facts
  clear z0 z1
  have z0 := HK.out.three.map.lt
  have z1 := HK.out.three.box.lt
  go_upto_region 4 with fail
  refine wp_region_later (by kernel_rfl) (by kernel_rfl) ?_
  repeat (go_big_quiet_step (first | (go_at_call 12; with_reducible exact later_call (HLK.out _)) | (go_at_call 62; with_reducible exact later_call (HIX.out _))))
  refine wpQuiet_nil ?_
  rintro _ ⟨xq4, rfl⟩
  have HK := hid (HK.out.below xq4.below)
  clear m0 m1 m2 m3 m4 d0 d1 d2 d3 d4 df o0 o1 o2 o3 o4 of
  obtain ⟨m0, m1, m2, m3, m4, _⟩ := HK.out.three.map.facts
  obtain ⟨d0, d1, d2, d3, d4, df⟩ := HK.out.three.box.facts
  obtain ⟨o0, o1, o2, o3, o4, of⟩ := HK.out.three.out.facts
  clear z0 z1
  go_wp2_with (first | (go_at_call 63; (with_reducible refine (HND.out _).mono ?_); rintro e w3 ⟨rfl, hb3⟩; have HK := hid (HK.out.below hb3); clear hb3; clear m0 m1 m2 m3 m4 d0 d1 d2 d3 d4 df o0 o1 o2 o3 o4 of; obtain ⟨m0, m1, m2, m3, m4, _⟩ := HK.out.three.map.facts; obtain ⟨d0, d1, d2, d3, d4, df⟩ := HK.out.three.box.facts; obtain ⟨o0, o1, o2, o3, o4, of⟩ := HK.out.three.out.facts) | (go_at_call 64; (with_reducible refine (HMO.out _ HK.out.mem).mono ?_); rintro e w4 ⟨rfl, hm4, hw4⟩; have HK := hid (HK.out.next hm4 hw4 HOLD.out); clear hm4 hw4; clear m0 m1 m2 m3 m4 d0 d1 d2 d3 d4 df o0 o1 o2 o3 o4 of; obtain ⟨m0, m1, m2, m3, m4, _⟩ := HK.out.three.map.facts; obtain ⟨d0, d1, d2, d3, d4, df⟩ := HK.out.three.box.facts; obtain ⟨o0, o1, o2, o3, o4, of⟩ := HK.out.three.out.facts))
  refine bodyPost_ret (v := (HD.mk ht hl 5 hr 0).v) (by simp [results, Try.results43, go_sem, o0, o1, o2, o3, o4, of]) rfl ?_
  exact ((HK.out.setS HOLD.out 5).setX HOLD.out 0).done HOLD.out _ _ rfl rfl rfl _ _ _ _ _

set_option maxRecDepth 100000 in
set_option maxHeartbeats 4000000 in
theorem rmTake_4n (m : PM) (h : HD) (w : World) (B b : Nat) (vw : Value) (s : MS) (hm : Ref w B b vw s) (hz : m.size ≤ (s.zs.length : Int)) (hmay : mayH m h) (hsv : h.s = 4) (hnp : ¬ 0 ≤ nodeF m h.l h.x 1) :
    Calls Try.prog 43 #[m.v, .pointer (some ⟨b, 0, none⟩), h.v] w (HandRet 74 2 h s B b vw w) := by
  have HST := hid (TkAt.start 74 29 2 m h h0 hm)
  have HOLD := hid hm.hold
  have HMY := hid (fun (x : World) => rMayH_any m h x)
  have hy1 := mayHB_yes hmay
  simp only [hy1] at HMY
  clear hy1
  have HN0 := hid (fun (x : World) => refNode_any m h.t h.l 0 x)
  have HN1 := hid (fun (x : World) => refNode_any m h.t h.l 1 x)
  have HLK := hid (fun (x : World) => refLock_any m h.l 0 x)
  have HIX := hid (fun (x : World) => rId_any m h.t h.l x)
  have ho := hmay.1
  have HND := hid (fun (x : World) => rnode_any m h.l h.x 1 x ho)
  clear hmay ho hm hz
  generalize idF m h.t h.l = i at *
  generalize m.node h.t h.l 0 = g0 at *
  generalize m.node h.t h.l 1 = l0 at *
  generalize m.at_ 3 h.l 0 = p at *
  have hnp1 : nodeF m h.l h.x 1 < 0 := by omega
  clear hnp
  generalize nodeF m h.l h.x 1 = q at *
  obtain ⟨s1, ml, mt, c, d⟩ := m
  obtain ⟨ht, hl, hs, hr, hx⟩ := h
  simp only at hsv
  subst hsv
  show Calls _ _ #[.agg #[.int .i64 s1, .int .i64 ml, .int .i64 mt, .int .i64 c, .int .i64 d], _, .agg #[.int .i64 ht, .int .i64 hl, .int .i64 4, .bool hr, .int .i64 hx]] _ _
  go_enter Try.func43, Try.ntmps43
  go_upto_region 1 with fail
  refine wp_rename _ HST.out ?_
  intro W hk
  have HK := hid hk
  obtain ⟨m0, m1, m2, m3, m4, _⟩ := hk.three.map.facts
  obtain ⟨d0, d1, d2, d3, d4, df⟩ := hk.three.box.facts
  obtain ⟨o0, o1, o2, o3, o4, of⟩ := hk.three.out.facts
  clear hk HST
  go_upto_region 3 with (go_at_call 37; (with_reducible refine (HMY.out _).mono ?_); rintro e w1 ⟨rfl, hb1⟩; have HK := hid (HK.out.below hb1); clear hb1; clear m0 m1 m2 m3 m4 d0 d1 d2 d3 d4 df o0 o1 o2 o3 o4 of; obtain ⟨m0, m1, m2, m3, m4, _⟩ := HK.out.three.map.facts; obtain ⟨d0, d1, d2, d3, d4, df⟩ := HK.out.three.box.facts; obtain ⟨o0, o1, o2, o3, o4, of⟩ := HK.out.three.out.facts)
  have z0 := HK.out.three.map.lt
  have z1 := HK.out.three.box.lt
  refine wp_region_later (by kernel_rfl) (by kernel_rfl) ?_
  repeat (go_big_quiet_step (first | (go_at_call 13; with_reducible exact later_call (HN0.out _)) | (go_at_call 13; with_reducible exact later_call (HN1.out _))))
  refine wpQuiet_nil ?_
  rintro _ ⟨xq3, rfl⟩
  have HK := hid (HK.out.below xq3.below)
  clear m0 m1 m2 m3 m4 d0 d1 d2 d3 d4 df o0 o1 o2 o3 o4 of
  obtain ⟨m0, m1, m2, m3, m4, _⟩ := HK.out.three.map.facts
  obtain ⟨d0, d1, d2, d3, d4, df⟩ := HK.out.three.box.facts
  obtain ⟨o0, o1, o2, o3, o4, of⟩ := HK.out.three.out.facts
  clear z0 z1
  have z0 := HK.out.three.map.lt
  have z1 := HK.out.three.box.lt
  go_upto_region 4 with fail
  refine wp_region_later (by kernel_rfl) (by kernel_rfl) ?_
  repeat (go_big_quiet_step (first | (go_at_call 12; with_reducible exact later_call (HLK.out _)) | (go_at_call 62; with_reducible exact later_call (HIX.out _))))
  refine wpQuiet_nil ?_
  rintro _ ⟨xq4, rfl⟩
  have HK := hid (HK.out.below xq4.below)
  clear m0 m1 m2 m3 m4 d0 d1 d2 d3 d4 df o0 o1 o2 o3 o4 of
  obtain ⟨m0, m1, m2, m3, m4, _⟩ := HK.out.three.map.facts
  obtain ⟨d0, d1, d2, d3, d4, df⟩ := HK.out.three.box.facts
  obtain ⟨o0, o1, o2, o3, o4, of⟩ := HK.out.three.out.facts
  clear z0 z1
  go_wp2_with ((go_at_call 63; (with_reducible refine (HND.out _).mono ?_); rintro e w3 ⟨rfl, hb3⟩; have HK := hid (HK.out.below hb3); clear hb3; clear m0 m1 m2 m3 m4 d0 d1 d2 d3 d4 df o0 o1 o2 o3 o4 of; obtain ⟨m0, m1, m2, m3, m4, _⟩ := HK.out.three.map.facts; obtain ⟨d0, d1, d2, d3, d4, df⟩ := HK.out.three.box.facts; obtain ⟨o0, o1, o2, o3, o4, of⟩ := HK.out.three.out.facts))
  refine bodyPost_ret (v := (HD.mk ht hl 4 hr hx).v) (by simp [results, Try.results43, go_sem, o0, o1, o2, o3, o4, of]) rfl ?_
  exact HK.out.done HOLD.out _ _ rfl rfl rfl _ _ _ _ _

set_option maxRecDepth 100000 in
set_option maxHeartbeats 4000000 in
theorem rmTake_5 (m : PM) (h : HD) (w : World) (B b : Nat) (vw : Value) (s : MS) (hm : Ref w B b vw s) (hz : m.size ≤ (s.zs.length : Int)) (hmay : mayH m h) (hsv : h.s = 5) (hy : s.vAt (m.node h.t h.l 0) = 0) :
    Calls Try.prog 43 #[m.v, .pointer (some ⟨b, 0, none⟩), h.v] w (HandRet 74 2 ⟨h.t, h.l, 9, h.rd, h.x⟩ (s.loaded (m.node h.t h.l 0)) B b vw w) := by
  have HST := hid (TkAt.start 74 29 2 m h h0 hm)
  have HOLD := hid hm.hold
  have HMY := hid (fun (x : World) => rMayH_any m h x)
  have hy1 := mayHB_yes hmay
  simp only [hy1] at HMY
  clear hy1
  have HN0 := hid (fun (x : World) => refNode_any m h.t h.l 0 x)
  have HN1 := hid (fun (x : World) => refNode_any m h.t h.l 1 x)
  have HLK := hid (fun (x : World) => refLock_any m h.l 0 x)
  have HIX := hid (fun (x : World) => rId_any m h.t h.l x)
  have ho := hmay.1
  have HMO := hid (fun (x : World) (hb : Ref x B b vw s) => rLoad_at (m.node h.t h.l 0) x B b vw s hb)
  simp only [hy] at HMO
  clear hy
  clear hmay ho hm hz
  generalize idF m h.t h.l = i at *
  generalize m.node h.t h.l 0 = g0 at *
  generalize m.node h.t h.l 1 = l0 at *
  generalize m.at_ 3 h.l 0 = p at *
  generalize s.eAt g0 = ee at *
  obtain ⟨s1, ml, mt, c, d⟩ := m
  obtain ⟨ht, hl, hs, hr, hx⟩ := h
  simp only at hsv
  subst hsv
  show Calls _ _ #[.agg #[.int .i64 s1, .int .i64 ml, .int .i64 mt, .int .i64 c, .int .i64 d], _, .agg #[.int .i64 ht, .int .i64 hl, .int .i64 5, .bool hr, .int .i64 hx]] _ _
  go_enter Try.func43, Try.ntmps43
  go_upto_region 1 with fail
  refine wp_rename _ HST.out ?_
  intro W hk
  have HK := hid hk
  obtain ⟨m0, m1, m2, m3, m4, _⟩ := hk.three.map.facts
  obtain ⟨d0, d1, d2, d3, d4, df⟩ := hk.three.box.facts
  obtain ⟨o0, o1, o2, o3, o4, of⟩ := hk.three.out.facts
  clear hk HST
  go_upto_region 3 with (go_at_call 37; (with_reducible refine (HMY.out _).mono ?_); rintro e w1 ⟨rfl, hb1⟩; have HK := hid (HK.out.below hb1); clear hb1; clear m0 m1 m2 m3 m4 d0 d1 d2 d3 d4 df o0 o1 o2 o3 o4 of; obtain ⟨m0, m1, m2, m3, m4, _⟩ := HK.out.three.map.facts; obtain ⟨d0, d1, d2, d3, d4, df⟩ := HK.out.three.box.facts; obtain ⟨o0, o1, o2, o3, o4, of⟩ := HK.out.three.out.facts)
  have z0 := HK.out.three.map.lt
  have z1 := HK.out.three.box.lt
  refine wp_region_later (by kernel_rfl) (by kernel_rfl) ?_
  repeat (go_big_quiet_step (first | (go_at_call 13; with_reducible exact later_call (HN0.out _)) | (go_at_call 13; with_reducible exact later_call (HN1.out _))))
  refine wpQuiet_nil ?_
  rintro _ ⟨xq3, rfl⟩
  have HK := hid (HK.out.below xq3.below)
  clear m0 m1 m2 m3 m4 d0 d1 d2 d3 d4 df o0 o1 o2 o3 o4 of
  obtain ⟨m0, m1, m2, m3, m4, _⟩ := HK.out.three.map.facts
  obtain ⟨d0, d1, d2, d3, d4, df⟩ := HK.out.three.box.facts
  obtain ⟨o0, o1, o2, o3, o4, of⟩ := HK.out.three.out.facts
  clear z0 z1
  have z0 := HK.out.three.map.lt
  have z1 := HK.out.three.box.lt
  go_upto_region 4 with fail
  refine wp_region_later (by kernel_rfl) (by kernel_rfl) ?_
  repeat (go_big_quiet_step (first | (go_at_call 12; with_reducible exact later_call (HLK.out _)) | (go_at_call 62; with_reducible exact later_call (HIX.out _))))
  refine wpQuiet_nil ?_
  rintro _ ⟨xq4, rfl⟩
  have HK := hid (HK.out.below xq4.below)
  clear m0 m1 m2 m3 m4 d0 d1 d2 d3 d4 df o0 o1 o2 o3 o4 of
  obtain ⟨m0, m1, m2, m3, m4, _⟩ := HK.out.three.map.facts
  obtain ⟨d0, d1, d2, d3, d4, df⟩ := HK.out.three.box.facts
  obtain ⟨o0, o1, o2, o3, o4, of⟩ := HK.out.three.out.facts
  clear z0 z1
  go_wp2_with ((go_at_call 44; (with_reducible refine (HMO.out _ HK.out.mem).mono ?_); rintro e w4 ⟨rfl, hm4, hw4⟩; have HK := hid (HK.out.next hm4 hw4 HOLD.out); clear hm4 hw4; clear m0 m1 m2 m3 m4 d0 d1 d2 d3 d4 df o0 o1 o2 o3 o4 of; obtain ⟨m0, m1, m2, m3, m4, _⟩ := HK.out.three.map.facts; obtain ⟨d0, d1, d2, d3, d4, df⟩ := HK.out.three.box.facts; obtain ⟨o0, o1, o2, o3, o4, of⟩ := HK.out.three.out.facts))
  refine bodyPost_ret (v := (HD.mk ht hl 9 hr hx).v) (by simp [results, Try.results43, go_sem, o0, o1, o2, o3, o4, of]) rfl ?_
  exact (HK.out.setS HOLD.out 9).done HOLD.out _ _ rfl rfl rfl _ _ _ _ _

set_option maxRecDepth 100000 in
set_option maxHeartbeats 4000000 in
theorem rmTake_5n (m : PM) (h : HD) (w : World) (B b : Nat) (vw : Value) (s : MS) (hm : Ref w B b vw s) (hz : m.size ≤ (s.zs.length : Int)) (hmay : mayH m h) (hsv : h.s = 5) (hy : ¬ s.vAt (m.node h.t h.l 0) = 0) :
    Calls Try.prog 43 #[m.v, .pointer (some ⟨b, 0, none⟩), h.v] w (HandRet 74 2 h (s.loaded (m.node h.t h.l 0)) B b vw w) := by
  have HST := hid (TkAt.start 74 29 2 m h h0 hm)
  have HOLD := hid hm.hold
  have HMY := hid (fun (x : World) => rMayH_any m h x)
  have hy1 := mayHB_yes hmay
  simp only [hy1] at HMY
  clear hy1
  have HN0 := hid (fun (x : World) => refNode_any m h.t h.l 0 x)
  have HN1 := hid (fun (x : World) => refNode_any m h.t h.l 1 x)
  have HLK := hid (fun (x : World) => refLock_any m h.l 0 x)
  have HIX := hid (fun (x : World) => rId_any m h.t h.l x)
  have ho := hmay.1
  have HMO := hid (fun (x : World) (hb : Ref x B b vw s) => rLoad_at (m.node h.t h.l 0) x B b vw s hb)
  clear hmay ho hm hz
  generalize idF m h.t h.l = i at *
  generalize m.node h.t h.l 0 = g0 at *
  generalize m.node h.t h.l 1 = l0 at *
  generalize m.at_ 3 h.l 0 = p at *
  generalize s.eAt g0 = ee at *
  generalize s.vAt g0 = y at *
  obtain ⟨s1, ml, mt, c, d⟩ := m
  obtain ⟨ht, hl, hs, hr, hx⟩ := h
  simp only at hsv
  subst hsv
  show Calls _ _ #[.agg #[.int .i64 s1, .int .i64 ml, .int .i64 mt, .int .i64 c, .int .i64 d], _, .agg #[.int .i64 ht, .int .i64 hl, .int .i64 5, .bool hr, .int .i64 hx]] _ _
  go_enter Try.func43, Try.ntmps43
  go_upto_region 1 with fail
  refine wp_rename _ HST.out ?_
  intro W hk
  have HK := hid hk
  obtain ⟨m0, m1, m2, m3, m4, _⟩ := hk.three.map.facts
  obtain ⟨d0, d1, d2, d3, d4, df⟩ := hk.three.box.facts
  obtain ⟨o0, o1, o2, o3, o4, of⟩ := hk.three.out.facts
  clear hk HST
  go_upto_region 3 with (go_at_call 37; (with_reducible refine (HMY.out _).mono ?_); rintro e w1 ⟨rfl, hb1⟩; have HK := hid (HK.out.below hb1); clear hb1; clear m0 m1 m2 m3 m4 d0 d1 d2 d3 d4 df o0 o1 o2 o3 o4 of; obtain ⟨m0, m1, m2, m3, m4, _⟩ := HK.out.three.map.facts; obtain ⟨d0, d1, d2, d3, d4, df⟩ := HK.out.three.box.facts; obtain ⟨o0, o1, o2, o3, o4, of⟩ := HK.out.three.out.facts)
  have z0 := HK.out.three.map.lt
  have z1 := HK.out.three.box.lt
  refine wp_region_later (by kernel_rfl) (by kernel_rfl) ?_
  repeat (go_big_quiet_step (first | (go_at_call 13; with_reducible exact later_call (HN0.out _)) | (go_at_call 13; with_reducible exact later_call (HN1.out _))))
  refine wpQuiet_nil ?_
  rintro _ ⟨xq3, rfl⟩
  have HK := hid (HK.out.below xq3.below)
  clear m0 m1 m2 m3 m4 d0 d1 d2 d3 d4 df o0 o1 o2 o3 o4 of
  obtain ⟨m0, m1, m2, m3, m4, _⟩ := HK.out.three.map.facts
  obtain ⟨d0, d1, d2, d3, d4, df⟩ := HK.out.three.box.facts
  obtain ⟨o0, o1, o2, o3, o4, of⟩ := HK.out.three.out.facts
  clear z0 z1
  have z0 := HK.out.three.map.lt
  have z1 := HK.out.three.box.lt
  go_upto_region 4 with fail
  refine wp_region_later (by kernel_rfl) (by kernel_rfl) ?_
  repeat (go_big_quiet_step (first | (go_at_call 12; with_reducible exact later_call (HLK.out _)) | (go_at_call 62; with_reducible exact later_call (HIX.out _))))
  refine wpQuiet_nil ?_
  rintro _ ⟨xq4, rfl⟩
  have HK := hid (HK.out.below xq4.below)
  clear m0 m1 m2 m3 m4 d0 d1 d2 d3 d4 df o0 o1 o2 o3 o4 of
  obtain ⟨m0, m1, m2, m3, m4, _⟩ := HK.out.three.map.facts
  obtain ⟨d0, d1, d2, d3, d4, df⟩ := HK.out.three.box.facts
  obtain ⟨o0, o1, o2, o3, o4, of⟩ := HK.out.three.out.facts
  clear z0 z1
  go_wp2_with ((go_at_call 44; (with_reducible refine (HMO.out _ HK.out.mem).mono ?_); rintro e w4 ⟨rfl, hm4, hw4⟩; have HK := hid (HK.out.next hm4 hw4 HOLD.out); clear hm4 hw4; clear m0 m1 m2 m3 m4 d0 d1 d2 d3 d4 df o0 o1 o2 o3 o4 of; obtain ⟨m0, m1, m2, m3, m4, _⟩ := HK.out.three.map.facts; obtain ⟨d0, d1, d2, d3, d4, df⟩ := HK.out.three.box.facts; obtain ⟨o0, o1, o2, o3, o4, of⟩ := HK.out.three.out.facts))
  refine bodyPost_ret (v := (HD.mk ht hl 5 hr hx).v) (by simp [results, Try.results43, go_sem, o0, o1, o2, o3, o4, of]) rfl ?_
  exact HK.out.done HOLD.out _ _ rfl rfl rfl _ _ _ _ _

set_option maxRecDepth 100000 in
set_option maxHeartbeats 4000000 in
theorem rmTake_q (m : PM) (h : HD) (w : World) (B b : Nat) (vw : Value) (s : MS) (hm : Ref w B b vw s) (hz : m.size ≤ (s.zs.length : Int)) (hmay : mayH m h) (q0 : ¬ h.s = 0) (q1 : ¬ h.s = 1) (q2 : ¬ h.s = 2) (q3 : ¬ h.s = 3) (q4 : ¬ h.s = 4) (q5 : ¬ h.s = 5) :
    Calls Try.prog 43 #[m.v, .pointer (some ⟨b, 0, none⟩), h.v] w (HandRet 74 2 h s B b vw w) := by
  have HST := hid (TkAt.start 74 29 2 m h h0 hm)
  have HOLD := hid hm.hold
  have HMY := hid (fun (x : World) => rMayH_any m h x)
  have hy1 := mayHB_yes hmay
  simp only [hy1] at HMY
  clear hy1
  have HN0 := hid (fun (x : World) => refNode_any m h.t h.l 0 x)
  have HN1 := hid (fun (x : World) => refNode_any m h.t h.l 1 x)
  have HLK := hid (fun (x : World) => refLock_any m h.l 0 x)
  have HIX := hid (fun (x : World) => rId_any m h.t h.l x)
  have ho := hmay.1
  clear hmay ho hm hz
  generalize idF m h.t h.l = i at *
  generalize m.node h.t h.l 0 = g0 at *
  generalize m.node h.t h.l 1 = l0 at *
  generalize m.at_ 3 h.l 0 = p at *
  obtain ⟨s1, ml, mt, c, d⟩ := m
  obtain ⟨ht, hl, hs, hr, hx⟩ := h
  simp only at q0 q1 q2 q3 q4 q5
  show Calls _ _ #[.agg #[.int .i64 s1, .int .i64 ml, .int .i64 mt, .int .i64 c, .int .i64 d], _, .agg #[.int .i64 ht, .int .i64 hl, .int .i64 hs, .bool hr, .int .i64 hx]] _ _
  go_enter Try.func43, Try.ntmps43
  go_upto_region 1 with fail
  refine wp_rename _ HST.out ?_
  intro W hk
  have HK := hid hk
  obtain ⟨m0, m1, m2, m3, m4, _⟩ := hk.three.map.facts
  obtain ⟨d0, d1, d2, d3, d4, df⟩ := hk.three.box.facts
  obtain ⟨o0, o1, o2, o3, o4, of⟩ := hk.three.out.facts
  clear hk HST
  go_upto_region 3 with (go_at_call 37; (with_reducible refine (HMY.out _).mono ?_); rintro e w1 ⟨rfl, hb1⟩; have HK := hid (HK.out.below hb1); clear hb1; clear m0 m1 m2 m3 m4 d0 d1 d2 d3 d4 df o0 o1 o2 o3 o4 of; obtain ⟨m0, m1, m2, m3, m4, _⟩ := HK.out.three.map.facts; obtain ⟨d0, d1, d2, d3, d4, df⟩ := HK.out.three.box.facts; obtain ⟨o0, o1, o2, o3, o4, of⟩ := HK.out.three.out.facts)
  have z0 := HK.out.three.map.lt
  have z1 := HK.out.three.box.lt
  refine wp_region_later (by kernel_rfl) (by kernel_rfl) ?_
  repeat (go_big_quiet_step (first | (go_at_call 13; with_reducible exact later_call (HN0.out _)) | (go_at_call 13; with_reducible exact later_call (HN1.out _))))
  refine wpQuiet_nil ?_
  rintro _ ⟨xq3, rfl⟩
  have HK := hid (HK.out.below xq3.below)
  clear m0 m1 m2 m3 m4 d0 d1 d2 d3 d4 df o0 o1 o2 o3 o4 of
  obtain ⟨m0, m1, m2, m3, m4, _⟩ := HK.out.three.map.facts
  obtain ⟨d0, d1, d2, d3, d4, df⟩ := HK.out.three.box.facts
  obtain ⟨o0, o1, o2, o3, o4, of⟩ := HK.out.three.out.facts
  clear z0 z1
  have z0 := HK.out.three.map.lt
  have z1 := HK.out.three.box.lt
  go_upto_region 4 with fail
  refine wp_region_later (by kernel_rfl) (by kernel_rfl) ?_
  repeat (go_big_quiet_step (first | (go_at_call 12; with_reducible exact later_call (HLK.out _)) | (go_at_call 62; with_reducible exact later_call (HIX.out _))))
  refine wpQuiet_nil ?_
  rintro _ ⟨xq4, rfl⟩
  have HK := hid (HK.out.below xq4.below)
  clear m0 m1 m2 m3 m4 d0 d1 d2 d3 d4 df o0 o1 o2 o3 o4 of
  obtain ⟨m0, m1, m2, m3, m4, _⟩ := HK.out.three.map.facts
  obtain ⟨d0, d1, d2, d3, d4, df⟩ := HK.out.three.box.facts
  obtain ⟨o0, o1, o2, o3, o4, of⟩ := HK.out.three.out.facts
  clear z0 z1
  go_wp2_with fail
  refine bodyPost_ret (v := (HD.mk ht hl hs hr hx).v) (by simp [results, Try.results43, go_sem, o0, o1, o2, o3, o4, of]) rfl ?_
  exact HK.out.done HOLD.out _ _ rfl rfl rfl _ _ _ _ _

theorem rmTake_any (m : PM) (h : HD) (w : World) (B b : Nat) (vw : Value) (s : MS) (hm : Ref w B b vw s) (hz : m.size ≤ (s.zs.length : Int)) :
    Calls Try.prog 43 #[m.v, .pointer (some ⟨b, 0, none⟩), h.v] w (HandRet 74 2 (mcTake m s h).1 (mcTake m s h).2 B b vw w) := by
  unfold mcTake
  by_cases hmay : mayH m h
  · rw [if_pos hmay]
    by_cases q0 : h.s = 0
    · rw [if_pos q0]; exact rmTake_0 m h w B b vw s hm hz hmay q0
    rw [if_neg q0]
    by_cases q1 : h.s = 1
    · rw [if_pos q1]; exact rmTake_1 m h w B b vw s hm hz hmay q1
    rw [if_neg q1]
    by_cases q2 : h.s = 2
    · rw [if_pos q2]; exact rmTake_2 m h w B b vw s hm hz hmay q2
    rw [if_neg q2]
    by_cases q3 : h.s = 3
    · rw [if_pos q3]
      unfold mcQueue
      by_cases c : s.vAt (m.at_ 3 h.l 0) = h.x
      · rw [if_pos c]
        by_cases c0 : h.x = 0
        · rw [if_pos c0]; exact rmTake_3a m h w B b vw s hm hz hmay q3 c c0
        · rw [if_neg c0]; exact rmTake_3b m h w B b vw s hm hz hmay q3 c c0
      · rw [if_neg c, q3]; exact rmTake_3c m h w B b vw s hm hz hmay q3 c
    rw [if_neg q3]
    by_cases q4 : h.s = 4
    · rw [if_pos q4]
      by_cases c : 0 ≤ nodeF m h.l h.x 1
      · rw [if_pos c]; exact rmTake_4 m h w B b vw s hm hz hmay q4 c
      · rw [if_neg c]; exact rmTake_4n m h w B b vw s hm hz hmay q4 c
    rw [if_neg q4]
    by_cases q5 : h.s = 5
    · rw [if_pos q5]
      by_cases c : s.vAt (m.node h.t h.l 0) = 0
      · rw [if_pos c]; exact rmTake_5 m h w B b vw s hm hz hmay q5 c
      · rw [if_neg c]; exact rmTake_5n m h w B b vw s hm hz hmay q5 c
    rw [if_neg q5]
    exact rmTake_q m h w B b vw s hm hz hmay q0 q1 q2 q3 q4 q5
  · rw [if_neg hmay]
    exact rmTake_no m h w B b vw s hm hz hmay

end Go.Proofs.Ytmcmajndcbobpaa
