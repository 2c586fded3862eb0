/-
  THE CONTRACT of the document's McsDrop.
-/
import Derived.Test.YtmcmajndcbobpaaMcsR
namespace Go.Proofs.Ytmcmajndcbobpaa
open Go.RowKit
attribute [local go_sem] Later.cell Later.frozen

/-- The stages of the region with the swap (11). -/
def Qu2 (T TM E : TypeId) (w : World) (m : PM) (h g : HD) (B b : Nat) (vw : Value) (s s' : MS) (L : Nat → Bool) (W : World) : Prop := TkAt T TM E w m h g B b vw (bif L 11 then s' else s) W

set_option maxRecDepth 100000 in
set_option maxHeartbeats 4000000 in
theorem rmDrop_no (m : PM) (h : HD) (w : World) (B b : Nat) (vw : Value) (s : MS) (hm : Ref w B b vw s) (hz : m.size ≤ (s.zs.length : Int)) (hmay : ¬ mayH m h) :
    Calls Try.prog 36 #[m.v, .pointer (some ⟨b, 0, none⟩), h.v] w (HandRet 74 2 h s B b vw w) := by
  have HST := hid (TkAt.start 74 29 2 m h h0 hm)
  have HOLD := hid hm.hold
  have HMY := hid (fun (x : World) => rMayH_any m h x)
  have hy1 := mayHB_no hmay
  simp only [hy1] at HMY
  clear hy1
  clear hmay hm hz
  obtain ⟨s1, ml, mt, c, d⟩ := m
  obtain ⟨ht, hl, hs, hr, hx⟩ := h
  show Calls _ _ #[.agg #[.int .i64 s1, .int .i64 ml, .int .i64 mt, .int .i64 c, .int .i64 d], _, .agg #[.int .i64 ht, .int .i64 hl, .int .i64 hs, .bool hr, .int .i64 hx]] _ _
  go_enter Try.func36, Try.ntmps36
  go_upto_region 1 with fail
  refine wp_rename _ HST.out ?_
  intro W hk
  have HK := hid hk
  obtain ⟨m0, m1, m2, m3, m4, _⟩ := hk.three.map.facts
  obtain ⟨d0, d1, d2, d3, d4, df⟩ := hk.three.box.facts
  obtain ⟨o0, o1, o2, o3, o4, of⟩ := hk.three.out.facts
  clear hk HST
  go_wp2_with ((go_at_call 37; (with_reducible refine (HMY.out _).mono ?_); rintro e w1 ⟨rfl, hb1⟩; have HK := hid (HK.out.below hb1); clear hb1; clear m0 m1 m2 m3 m4 d0 d1 d2 d3 d4 df o0 o1 o2 o3 o4 of; obtain ⟨m0, m1, m2, m3, m4, _⟩ := HK.out.three.map.facts; obtain ⟨d0, d1, d2, d3, d4, df⟩ := HK.out.three.box.facts; obtain ⟨o0, o1, o2, o3, o4, of⟩ := HK.out.three.out.facts))
  refine bodyPost_ret (v := (HD.mk ht hl hs hr hx).v) (by simp [results, Try.results36, go_sem, o0, o1, o2, o3, o4, of]) rfl ?_
  exact HK.out.done HOLD.out _ _ rfl rfl rfl _ _ _ _ _

set_option maxRecDepth 100000 in
set_option maxHeartbeats 4000000 in
theorem rmDrop_9 (m : PM) (h : HD) (w : World) (B b : Nat) (vw : Value) (s : MS) (hm : Ref w B b vw s) (hz : m.size ≤ (s.zs.length : Int)) (hmay : mayH m h) (hsv : h.s = 9) (hy : s.vAt (m.node h.t h.l 1) = 0) :
    Calls Try.prog 36 #[m.v, .pointer (some ⟨b, 0, none⟩), h.v] w (HandRet 74 2 ⟨h.t, h.l, 7, h.rd, h.x⟩ (s.loaded (m.node h.t h.l 1)) B b vw w) := by
  have HST := hid (TkAt.start 74 29 2 m h h0 hm)
  have HOLD := hid hm.hold
  have HMY := hid (fun (x : World) => rMayH_any m h x)
  have hy1 := mayHB_yes hmay
  simp only [hy1] at HMY
  clear hy1
  have HL1 := hid (fun (x : World) => refNode_any m h.t h.l 1 x)
  have ho := hmay.1
  have HMO := hid (fun (x : World) (hb : Ref x B b vw s) => rLoad_at (m.node h.t h.l 1) x B b vw s hb)
  simp only [hy] at HMO
  clear hy
  clear hmay ho hm hz
  generalize m.node h.t h.l 1 = l0 at *
  generalize s.eAt l0 = ee at *
  obtain ⟨s1, ml, mt, c, d⟩ := m
  obtain ⟨ht, hl, hs, hr, hx⟩ := h
  simp only at hsv
  subst hsv
  show Calls _ _ #[.agg #[.int .i64 s1, .int .i64 ml, .int .i64 mt, .int .i64 c, .int .i64 d], _, .agg #[.int .i64 ht, .int .i64 hl, .int .i64 9, .bool hr, .int .i64 hx]] _ _
  go_enter Try.func36, Try.ntmps36
  go_upto_region 1 with fail
  refine wp_rename _ HST.out ?_
  intro W hk
  have HK := hid hk
  obtain ⟨m0, m1, m2, m3, m4, _⟩ := hk.three.map.facts
  obtain ⟨d0, d1, d2, d3, d4, df⟩ := hk.three.box.facts
  obtain ⟨o0, o1, o2, o3, o4, of⟩ := hk.three.out.facts
  clear hk HST
  go_wp2_with (first | (go_at_call 37; (with_reducible refine (HMY.out _).mono ?_); rintro e w1 ⟨rfl, hb1⟩; have HK := hid (HK.out.below hb1); clear hb1; clear m0 m1 m2 m3 m4 d0 d1 d2 d3 d4 df o0 o1 o2 o3 o4 of; obtain ⟨m0, m1, m2, m3, m4, _⟩ := HK.out.three.map.facts; obtain ⟨d0, d1, d2, d3, d4, df⟩ := HK.out.three.box.facts; obtain ⟨o0, o1, o2, o3, o4, of⟩ := HK.out.three.out.facts) | (go_at_call 13; (with_reducible refine (HL1.out _).mono ?_); rintro e w2 ⟨rfl, hb2⟩; have HK := hid (HK.out.below hb2); clear hb2; clear m0 m1 m2 m3 m4 d0 d1 d2 d3 d4 df o0 o1 o2 o3 o4 of; obtain ⟨m0, m1, m2, m3, m4, _⟩ := HK.out.three.map.facts; obtain ⟨d0, d1, d2, d3, d4, df⟩ := HK.out.three.box.facts; obtain ⟨o0, o1, o2, o3, o4, of⟩ := HK.out.three.out.facts) | (go_at_call 44; (with_reducible refine (HMO.out _ HK.out.mem).mono ?_); rintro e w4 ⟨rfl, hm4, hw4⟩; have HK := hid (HK.out.next hm4 hw4 HOLD.out); clear hm4 hw4; clear m0 m1 m2 m3 m4 d0 d1 d2 d3 d4 df o0 o1 o2 o3 o4 of; obtain ⟨m0, m1, m2, m3, m4, _⟩ := HK.out.three.map.facts; obtain ⟨d0, d1, d2, d3, d4, df⟩ := HK.out.three.box.facts; obtain ⟨o0, o1, o2, o3, o4, of⟩ := HK.out.three.out.facts))
  refine bodyPost_ret (v := (HD.mk ht hl 7 hr hx).v) (by simp [results, Try.results36, go_sem, o0, o1, o2, o3, o4, of]) rfl ?_
  exact (HK.out.setS HOLD.out 7).done HOLD.out _ _ rfl rfl rfl _ _ _ _ _

set_option maxRecDepth 100000 in
set_option maxHeartbeats 4000000 in
theorem rmDrop_9n (m : PM) (h : HD) (w : World) (B b : Nat) (vw : Value) (s : MS) (hm : Ref w B b vw s) (hz : m.size ≤ (s.zs.length : Int)) (hmay : mayH m h) (hsv : h.s = 9) (hy : ¬ s.vAt (m.node h.t h.l 1) = 0) :
    Calls Try.prog 36 #[m.v, .pointer (some ⟨b, 0, none⟩), h.v] w (HandRet 74 2 ⟨h.t, h.l, 8, h.rd, s.vAt (m.node h.t h.l 1)⟩ (s.loaded (m.node h.t h.l 1)) B b vw w) := by
  have HST := hid (TkAt.start 74 29 2 m h h0 hm)
  have HOLD := hid hm.hold
  have HMY := hid (fun (x : World) => rMayH_any m h x)
  have hy1 := mayHB_yes hmay
  simp only [hy1] at HMY
  clear hy1
  have HL1 := hid (fun (x : World) => refNode_any m h.t h.l 1 x)
  have ho := hmay.1
  have HMO := hid (fun (x : World) (hb : Ref x B b vw s) => rLoad_at (m.node h.t h.l 1) x B b vw s hb)
  clear hmay ho hm hz
  generalize m.node h.t h.l 1 = l0 at *
  generalize s.eAt l0 = ee at *
  generalize s.vAt l0 = y at *
  have hyn : (y != 0) = true := by simp [hy]
  obtain ⟨s1, ml, mt, c, d⟩ := m
  obtain ⟨ht, hl, hs, hr, hx⟩ := h
  simp only at hsv
  subst hsv
  show Calls _ _ #[.agg #[.int .i64 s1, .int .i64 ml, .int .i64 mt, .int .i64 c, .int .i64 d], _, .agg #[.int .i64 ht, .int .i64 hl, .int .i64 9, .bool hr, .int .i64 hx]] _ _
  go_enter Try.func36, Try.ntmps36
  go_upto_region 1 with fail
  refine wp_rename _ HST.out ?_
  intro W hk
  have HK := hid hk
  obtain ⟨m0, m1, m2, m3, m4, _⟩ := hk.three.map.facts
  obtain ⟨d0, d1, d2, d3, d4, df⟩ := hk.three.box.facts
  obtain ⟨o0, o1, o2, o3, o4, of⟩ := hk.three.out.facts
  clear hk HST
  go_wp2_with (first | (go_at_call 37; (with_reducible refine (HMY.out _).mono ?_); rintro e w1 ⟨rfl, hb1⟩; have HK := hid (HK.out.below hb1); clear hb1; clear m0 m1 m2 m3 m4 d0 d1 d2 d3 d4 df o0 o1 o2 o3 o4 of; obtain ⟨m0, m1, m2, m3, m4, _⟩ := HK.out.three.map.facts; obtain ⟨d0, d1, d2, d3, d4, df⟩ := HK.out.three.box.facts; obtain ⟨o0, o1, o2, o3, o4, of⟩ := HK.out.three.out.facts) | (go_at_call 13; (with_reducible refine (HL1.out _).mono ?_); rintro e w2 ⟨rfl, hb2⟩; have HK := hid (HK.out.below hb2); clear hb2; clear m0 m1 m2 m3 m4 d0 d1 d2 d3 d4 df o0 o1 o2 o3 o4 of; obtain ⟨m0, m1, m2, m3, m4, _⟩ := HK.out.three.map.facts; obtain ⟨d0, d1, d2, d3, d4, df⟩ := HK.out.three.box.facts; obtain ⟨o0, o1, o2, o3, o4, of⟩ := HK.out.three.out.facts) | (go_at_call 44; (with_reducible refine (HMO.out _ HK.out.mem).mono ?_); rintro e w4 ⟨rfl, hm4, hw4⟩; have HK := hid (HK.out.next hm4 hw4 HOLD.out); clear hm4 hw4; clear m0 m1 m2 m3 m4 d0 d1 d2 d3 d4 df o0 o1 o2 o3 o4 of; obtain ⟨m0, m1, m2, m3, m4, _⟩ := HK.out.three.map.facts; obtain ⟨d0, d1, d2, d3, d4, df⟩ := HK.out.three.box.facts; obtain ⟨o0, o1, o2, o3, o4, of⟩ := HK.out.three.out.facts))
  refine bodyPost_ret (v := (HD.mk ht hl 8 hr y).v) (by simp [results, Try.results36, go_sem, o0, o1, o2, o3, o4, of]) rfl ?_
  exact ((HK.out.setS HOLD.out 8).setX HOLD.out y).done HOLD.out _ _ rfl rfl rfl _ _ _ _ _

set_option maxRecDepth 100000 in
set_option maxHeartbeats 4000000 in
theorem rmDrop_6 (m : PM) (h : HD) (w : World) (B b : Nat) (vw : Value) (s : MS) (hm : Ref w B b vw s) (hz : m.size ≤ (s.zs.length : Int)) (hmay : mayH m h) (hsv : h.s = 6) (hy : s.vAt (m.node h.t h.l 1) = 0) :
    Calls Try.prog 36 #[m.v, .pointer (some ⟨b, 0, none⟩), h.v] w (HandRet 74 2 h (s.loaded (m.node h.t h.l 1)) B b vw w) := by
  have HST := hid (TkAt.start 74 29 2 m h h0 hm)
  have HOLD := hid hm.hold
  have HMY := hid (fun (x : World) => rMayH_any m h x)
  have hy1 := mayHB_yes hmay
  simp only [hy1] at HMY
  clear hy1
  have HL1 := hid (fun (x : World) => refNode_any m h.t h.l 1 x)
  have ho := hmay.1
  have HMO := hid (fun (x : World) (hb : Ref x B b vw s) => rLoad_at (m.node h.t h.l 1) x B b vw s hb)
  simp only [hy] at HMO
  clear hy
  clear hmay ho hm hz
  generalize m.node h.t h.l 1 = l0 at *
  generalize s.eAt l0 = ee at *
  obtain ⟨s1, ml, mt, c, d⟩ := m
  obtain ⟨ht, hl, hs, hr, hx⟩ := h
  simp only at hsv
  subst hsv
  show Calls _ _ #[.agg #[.int .i64 s1, .int .i64 ml, .int .i64 mt, .int .i64 c, .int .i64 d], _, .agg #[.int .i64 ht, .int .i64 hl, .int .i64 6, .bool hr, .int .i64 hx]] _ _
  go_enter Try.func36, Try.ntmps36
  go_upto_region 1 with fail
  refine wp_rename _ HST.out ?_
  intro W hk
  have HK := hid hk
  obtain ⟨m0, m1, m2, m3, m4, _⟩ := hk.three.map.facts
  obtain ⟨d0, d1, d2, d3, d4, df⟩ := hk.three.box.facts
  obtain ⟨o0, o1, o2, o3, o4, of⟩ := hk.three.out.facts
  clear hk HST
  go_wp2_with (first | (go_at_call 37; (with_reducible refine (HMY.out _).mono ?_); rintro e w1 ⟨rfl, hb1⟩; have HK := hid (HK.out.below hb1); clear hb1; clear m0 m1 m2 m3 m4 d0 d1 d2 d3 d4 df o0 o1 o2 o3 o4 of; obtain ⟨m0, m1, m2, m3, m4, _⟩ := HK.out.three.map.facts; obtain ⟨d0, d1, d2, d3, d4, df⟩ := HK.out.three.box.facts; obtain ⟨o0, o1, o2, o3, o4, of⟩ := HK.out.three.out.facts) | (go_at_call 13; (with_reducible refine (HL1.out _).mono ?_); rintro e w2 ⟨rfl, hb2⟩; have HK := hid (HK.out.below hb2); clear hb2; clear m0 m1 m2 m3 m4 d0 d1 d2 d3 d4 df o0 o1 o2 o3 o4 of; obtain ⟨m0, m1, m2, m3, m4, _⟩ := HK.out.three.map.facts; obtain ⟨d0, d1, d2, d3, d4, df⟩ := HK.out.three.box.facts; obtain ⟨o0, o1, o2, o3, o4, of⟩ := HK.out.three.out.facts) | (go_at_call 44; (with_reducible refine (HMO.out _ HK.out.mem).mono ?_); rintro e w4 ⟨rfl, hm4, hw4⟩; have HK := hid (HK.out.next hm4 hw4 HOLD.out); clear hm4 hw4; clear m0 m1 m2 m3 m4 d0 d1 d2 d3 d4 df o0 o1 o2 o3 o4 of; obtain ⟨m0, m1, m2, m3, m4, _⟩ := HK.out.three.map.facts; obtain ⟨d0, d1, d2, d3, d4, df⟩ := HK.out.three.box.facts; obtain ⟨o0, o1, o2, o3, o4, of⟩ := HK.out.three.out.facts))
  refine bodyPost_ret (v := (HD.mk ht hl 6 hr hx).v) (by simp [results, Try.results36, go_sem, o0, o1, o2, o3, o4, of]) rfl ?_
  exact HK.out.done HOLD.out _ _ rfl rfl rfl _ _ _ _ _

set_option maxRecDepth 100000 in
set_option maxHeartbeats 4000000 in
theorem rmDrop_6n (m : PM) (h : HD) (w : World) (B b : Nat) (vw : Value) (s : MS) (hm : Ref w B b vw s) (hz : m.size ≤ (s.zs.length : Int)) (hmay : mayH m h) (hsv : h.s = 6) (hy : ¬ s.vAt (m.node h.t h.l 1) = 0) :
    Calls Try.prog 36 #[m.v, .pointer (some ⟨b, 0, none⟩), h.v] w (HandRet 74 2 ⟨h.t, h.l, 8, h.rd, s.vAt (m.node h.t h.l 1)⟩ (s.loaded (m.node h.t h.l 1)) B b vw w) := by
  have HST := hid (TkAt.start 74 29 2 m h h0 hm)
  have HOLD := hid hm.hold
  have HMY := hid (fun (x : World) => rMayH_any m h x)
  have hy1 := mayHB_yes hmay
  simp only [hy1] at HMY
  clear hy1
  have HL1 := hid (fun (x : World) => refNode_any m h.t h.l 1 x)
  have ho := hmay.1
  have HMO := hid (fun (x : World) (hb : Ref x B b vw s) => rLoad_at (m.node h.t h.l 1) x B b vw s hb)
  clear hmay ho hm hz
  generalize m.node h.t h.l 1 = l0 at *
  generalize s.eAt l0 = ee at *
  generalize s.vAt l0 = y at *
  have hyn : (y != 0) = true := by simp [hy]
  obtain ⟨s1, ml, mt, c, d⟩ := m
  obtain ⟨ht, hl, hs, hr, hx⟩ := h
  simp only at hsv
  subst hsv
  show Calls _ _ #[.agg #[.int .i64 s1, .int .i64 ml, .int .i64 mt, .int .i64 c, .int .i64 d], _, .agg #[.int .i64 ht, .int .i64 hl, .int .i64 6, .bool hr, .int .i64 hx]] _ _
  go_enter Try.func36, Try.ntmps36
  go_upto_region 1 with fail
  refine wp_rename _ HST.out ?_
  intro W hk
  have HK := hid hk
  obtain ⟨m0, m1, m2, m3, m4, _⟩ := hk.three.map.facts
  obtain ⟨d0, d1, d2, d3, d4, df⟩ := hk.three.box.facts
  obtain ⟨o0, o1, o2, o3, o4, of⟩ := hk.three.out.facts
  clear hk HST
  go_wp2_with (first | (go_at_call 37; (with_reducible refine (HMY.out _).mono ?_); rintro e w1 ⟨rfl, hb1⟩; have HK := hid (HK.out.below hb1); clear hb1; clear m0 m1 m2 m3 m4 d0 d1 d2 d3 d4 df o0 o1 o2 o3 o4 of; obtain ⟨m0, m1, m2, m3, m4, _⟩ := HK.out.three.map.facts; obtain ⟨d0, d1, d2, d3, d4, df⟩ := HK.out.three.box.facts; obtain ⟨o0, o1, o2, o3, o4, of⟩ := HK.out.three.out.facts) | (go_at_call 13; (with_reducible refine (HL1.out _).mono ?_); rintro e w2 ⟨rfl, hb2⟩; have HK := hid (HK.out.below hb2); clear hb2; clear m0 m1 m2 m3 m4 d0 d1 d2 d3 d4 df o0 o1 o2 o3 o4 of; obtain ⟨m0, m1, m2, m3, m4, _⟩ := HK.out.three.map.facts; obtain ⟨d0, d1, d2, d3, d4, df⟩ := HK.out.three.box.facts; obtain ⟨o0, o1, o2, o3, o4, of⟩ := HK.out.three.out.facts) | (go_at_call 44; (with_reducible refine (HMO.out _ HK.out.mem).mono ?_); rintro e w4 ⟨rfl, hm4, hw4⟩; have HK := hid (HK.out.next hm4 hw4 HOLD.out); clear hm4 hw4; clear m0 m1 m2 m3 m4 d0 d1 d2 d3 d4 df o0 o1 o2 o3 o4 of; obtain ⟨m0, m1, m2, m3, m4, _⟩ := HK.out.three.map.facts; obtain ⟨d0, d1, d2, d3, d4, df⟩ := HK.out.three.box.facts; obtain ⟨o0, o1, o2, o3, o4, of⟩ := HK.out.three.out.facts))
  refine bodyPost_ret (v := (HD.mk ht hl 8 hr y).v) (by simp [results, Try.results36, go_sem, o0, o1, o2, o3, o4, of]) rfl ?_
  exact ((HK.out.setS HOLD.out 8).setX HOLD.out y).done HOLD.out _ _ rfl rfl rfl _ _ _ _ _

set_option maxRecDepth 100000 in
set_option maxHeartbeats 4000000 in
theorem rmDrop_7 (m : PM) (h : HD) (w : World) (B b : Nat) (vw : Value) (s : MS) (hm : Ref w B b vw s) (hz : m.size ≤ (s.zs.length : Int)) (hmay : mayH m h) (hsv : h.s = 7) (hy : s.vAt (m.at_ 3 h.l 0) = idF m h.t h.l) :
    Calls Try.prog 36 #[m.v, .pointer (some ⟨b, 0, none⟩), h.v] w (HandRet 74 2 ⟨h.t, h.l, 0, h.rd, h.x⟩ (s.swapped (m.at_ 3 h.l 0) (idF m h.t h.l) 0) B b vw w) := by
  have HST := hid (TkAt.start 74 29 2 m h h0 hm)
  have HOLD := hid hm.hold
  have HMY := hid (fun (x : World) => rMayH_any m h x)
  have hy1 := mayHB_yes hmay
  simp only [hy1] at HMY
  clear hy1
  have HL1 := hid (fun (x : World) => refNode_any m h.t h.l 1 x)
  have ho := hmay.1
  have HLK := hid (fun (x : World) => refLock_any m h.l 0 x)
  have HIX := hid (fun (x : World) => rId_any m h.t h.l x)
  have hp := lock_in hmay (p := 0) (by decide) (by decide)
  have hok := MS.okAt_in (s := s) (p := m.at_ 3 h.l 0) (o := idF m h.t h.l) hp.2.1 (by omega)
  have HMO := hid (fun (x : World) (hb : Ref x B b vw s) => rSwap_at (m.at_ 3 h.l 0) (idF m h.t h.l) 0 x B b vw s hb)
  simp only [hok] at HMO
  simp only [decide_eq_true hy] at HMO
  clear hp hok hy
  clear hmay ho hm hz
  generalize m.node h.t h.l 1 = l0 at *
  generalize idF m h.t h.l = i at *
  generalize m.at_ 3 h.l 0 = p at *
  generalize s.eAt p = ee at *
  generalize s.vAt p = y at *
  obtain ⟨s1, ml, mt, c, d⟩ := m
  obtain ⟨ht, hl, hs, hr, hx⟩ := h
  simp only at hsv
  subst hsv
  show Calls _ _ #[.agg #[.int .i64 s1, .int .i64 ml, .int .i64 mt, .int .i64 c, .int .i64 d], _, .agg #[.int .i64 ht, .int .i64 hl, .int .i64 7, .bool hr, .int .i64 hx]] _ _
  go_enter Try.func36, Try.ntmps36
  go_upto_region 1 with fail
  refine wp_rename _ HST.out ?_
  intro W hk
  have HK := hid hk
  obtain ⟨m0, m1, m2, m3, m4, _⟩ := hk.three.map.facts
  obtain ⟨d0, d1, d2, d3, d4, df⟩ := hk.three.box.facts
  obtain ⟨o0, o1, o2, o3, o4, of⟩ := hk.three.out.facts
  clear hk HST
  go_upto_region 13 with (first | (go_at_call 37; (with_reducible refine (HMY.out _).mono ?_); rintro e w1 ⟨rfl, hb1⟩; have HK := hid (HK.out.below hb1); clear hb1; clear m0 m1 m2 m3 m4 d0 d1 d2 d3 d4 df o0 o1 o2 o3 o4 of; obtain ⟨m0, m1, m2, m3, m4, _⟩ := HK.out.three.map.facts; obtain ⟨d0, d1, d2, d3, d4, df⟩ := HK.out.three.box.facts; obtain ⟨o0, o1, o2, o3, o4, of⟩ := HK.out.three.out.facts) | (go_at_call 13; (with_reducible refine (HL1.out _).mono ?_); rintro e w2 ⟨rfl, hb2⟩; have HK := hid (HK.out.below hb2); clear hb2; clear m0 m1 m2 m3 m4 d0 d1 d2 d3 d4 df o0 o1 o2 o3 o4 of; obtain ⟨m0, m1, m2, m3, m4, _⟩ := HK.out.three.map.facts; obtain ⟨d0, d1, d2, d3, d4, df⟩ := HK.out.three.box.facts; obtain ⟨o0, o1, o2, o3, o4, of⟩ := HK.out.three.out.facts))
  have hne1 : Nonempty (Sat (fun W => ∃ ms, TkAt 74 29 2 w ⟨s1, ml, mt, c, d⟩ ⟨ht, hl, 7, hr, hx⟩ h0 B b vw ms W)) := ⟨⟨_, _, HK.out⟩⟩
  have hne2 : Nonempty (Sat (fun _ => True)) := ⟨⟨w, trivial⟩⟩
  have hcells := fun (x : Sat (fun W => ∃ ms, TkAt 74 29 2 w ⟨s1, ml, mt, c, d⟩ ⟨ht, hl, 7, hr, hx⟩ h0 B b vw ms W)) => TkAt.cells x.p
  have y0 := fun x => (hcells x).1
  have y1 := fun x => (hcells x).2.1
  have y2 := fun x => (hcells x).2.2.1
  have y3 := fun x => (hcells x).2.2.2.1
  have y4 := fun x => (hcells x).2.2.2.2.1
  have y5 := fun x => (hcells x).2.2.2.2.2.1
  have y6 := fun x => (hcells x).2.2.2.2.2.2.1
  have y7 := fun x => (hcells x).2.2.2.2.2.2.2.1
  have y8 := fun x => (hcells x).2.2.2.2.2.2.2.2.1
  have y9 := fun x => (hcells x).2.2.2.2.2.2.2.2.2
  clear hcells
  clear m0 m1 m2 m3 m4 d0 d1 d2 d3 d4 df o0 o1 o2 o3 o4 of
  generalize hs2 : s.swapped p i 0 = s2 at *
  clear hs2
  refine wp_region_staged (Qu2 74 29 2 w ⟨s1, ml, mt, c, d⟩ ⟨ht, hl, 7, hr, hx⟩ h0 B b vw s s2) (by kernel_rfl) (by kernel_rfl) (fun L hL => by unfold Qu2; rw [hL 11]; exact HK.out.below (bdrew (bid _))) ?_
  refine wpS_plain (fun _ => True) (fun _ _ _ _ _ => trivial) (fun _ _ h => h) rfl rfl ?_
  intro KK hKK
  go_big_quiet_op
  go_big_quiet_on
  refine wpS_plain (fun W => ∃ ms, TkAt 74 29 2 w ⟨s1, ml, mt, c, d⟩ ⟨ht, hl, 7, hr, hx⟩ h0 B b vw ms W) (fun L W hL hcl hd => ⟨_, hd⟩) (fun _ _ h => h) rfl rfl ?_
  intro KK hKK
  go_big_quiet_op
  go_big_quiet_on
  refine wpS_plain (fun _ => True) (fun _ _ _ _ _ => trivial) (fun _ _ h => h) rfl rfl ?_
  intro KK hKK
  go_big_quiet_op
  go_big_quiet_on
  refine wpS_plain (fun W => ∃ ms, TkAt 74 29 2 w ⟨s1, ml, mt, c, d⟩ ⟨ht, hl, 7, hr, hx⟩ h0 B b vw ms W) (fun L W hL hcl hd => ⟨_, hd⟩) (fun _ _ h => h) rfl rfl ?_
  intro KK hKK
  go_big_quiet_op
  go_big_quiet_on
  refine wpS_call 12 #[(PM.mk s1 ml mt c d).v, .int .i64 hl, .int .i64 0] (.int .i64 p) rfl (fun _ => by go_simp) ?_ ?_
  · intro L W hL hcl hd
    refine (HLK.out W).mono ?_
    rintro e w'' ⟨rfl, hb⟩
    exact ⟨rfl, TkAt.below hd hb⟩
  (try simp only [Act.put, List.getElem_toArray, List.getElem_cons_zero, List.getElem_cons_succ, List.setIfInBounds_toArray, List.set_cons_zero, List.set_cons_succ])
  refine wpS_plain (fun W => ∃ ms, TkAt 74 29 2 w ⟨s1, ml, mt, c, d⟩ ⟨ht, hl, 7, hr, hx⟩ h0 B b vw ms W) (fun L W hL hcl hd => ⟨_, hd⟩) (fun _ _ h => h) rfl rfl ?_
  intro KK hKK
  go_big_quiet_op
  go_big_quiet_on
  refine wpS_plain (fun _ => True) (fun _ _ _ _ _ => trivial) (fun _ _ h => h) rfl rfl ?_
  intro KK hKK
  go_big_quiet_op
  go_big_quiet_on
  refine wpS_plain (fun W => ∃ ms, TkAt 74 29 2 w ⟨s1, ml, mt, c, d⟩ ⟨ht, hl, 7, hr, hx⟩ h0 B b vw ms W) (fun L W hL hcl hd => ⟨_, hd⟩) (fun _ _ h => h) rfl rfl ?_
  intro KK hKK
  go_big_quiet_op
  go_big_quiet_on
  refine wpS_plain (fun _ => True) (fun _ _ _ _ _ => trivial) (fun _ _ h => h) rfl rfl ?_
  intro KK hKK
  go_big_quiet_op
  go_big_quiet_on
  refine wpS_plain (fun W => ∃ ms, TkAt 74 29 2 w ⟨s1, ml, mt, c, d⟩ ⟨ht, hl, 7, hr, hx⟩ h0 B b vw ms W) (fun L W hL hcl hd => ⟨_, hd⟩) (fun _ _ h => h) rfl rfl ?_
  intro KK hKK
  go_big_quiet_op
  go_big_quiet_on
  refine wpS_call 62 #[(PM.mk s1 ml mt c d).v, .int .i64 ht, .int .i64 hl] (.int .i64 i) rfl (fun _ => by go_simp) ?_ ?_
  · intro L W hL hcl hd
    refine (HIX.out W).mono ?_
    rintro e w'' ⟨rfl, hb⟩
    exact ⟨rfl, TkAt.below hd hb⟩
  (try simp only [Act.put, List.getElem_toArray, List.getElem_cons_zero, List.getElem_cons_succ, List.setIfInBounds_toArray, List.set_cons_zero, List.set_cons_succ])
  refine wpS_call 61 #[.pointer (some ⟨b, 0, none⟩), .int .i64 p, .int .i64 i, .int .i64 0] (.tuple #[.int .i64 y, .bool true, .int .i64 ee]) rfl (fun _ => by go_simp) ?_ ?_
  · intro L W hL hcl hd
    have hd1 : TkAt 74 29 2 w ⟨s1, ml, mt, c, d⟩ ⟨ht, hl, 7, hr, hx⟩ h0 B b vw s W := by unfold Qu2 at hd; rw [hL] at hd; exact hd
    refine (HMO.out W hd1.mem).mono ?_
    rintro e w'' ⟨rfl, hm, hw⟩
    exact ⟨rfl, hd1.next hm hw HOLD.out⟩
  (try simp only [Act.put, List.getElem_toArray, List.getElem_cons_zero, List.getElem_cons_succ, List.setIfInBounds_toArray, List.set_cons_zero, List.set_cons_succ])
  refine wpS_plain (fun _ => True) (fun _ _ _ _ _ => trivial) (fun _ _ h => h) rfl rfl ?_
  intro KK hKK
  go_big_quiet_op
  go_big_quiet_on
  refine wpS_plain (fun _ => True) (fun _ _ _ _ _ => trivial) (fun _ _ h => h) rfl rfl ?_
  intro KK hKK
  go_big_quiet_op
  go_big_quiet_on
  refine wpS_plain (fun _ => True) (fun _ _ _ _ _ => trivial) (fun _ _ h => h) rfl rfl ?_
  intro KK hKK
  go_big_quiet_op
  go_big_quiet_on
  refine wpS_plain (fun _ => True) (fun _ _ _ _ _ => trivial) (fun _ _ h => h) rfl rfl ?_
  intro KK hKK
  go_big_quiet_op
  go_big_quiet_on
  refine wpS_plain (fun _ => True) (fun _ _ _ _ _ => trivial) (fun _ _ h => h) rfl rfl ?_
  intro KK hKK
  go_big_quiet_op
  go_big_quiet_on
  refine wpS_plain (fun _ => True) (fun _ _ _ _ _ => trivial) (fun _ _ h => h) rfl rfl ?_
  intro KK hKK
  go_big_quiet_op
  go_big_quiet_on
  refine wpS_plain (fun _ => True) (fun _ _ _ _ _ => trivial) (fun _ _ h => h) rfl rfl ?_
  intro KK hKK
  go_big_quiet_op
  go_big_quiet_on
  intro L W2 hall hd
  have HK2 := hid (show TkAt 74 29 2 w ⟨s1, ml, mt, c, d⟩ ⟨ht, hl, 7, hr, hx⟩ h0 B b vw s2 W2 from by unfold Qu2 at hd; rw [hall 11 (by decide)] at hd; exact hd)
  clear hd hall y0 y1 y2 y3 y4 y5 y6 y7 y8 y9 hne1 hne2 HK HMO HLK HIX
  obtain ⟨d0, d1, d2, d3, d4, df⟩ := HK2.out.three.box.facts
  obtain ⟨o0, o1, o2, o3, o4, of⟩ := HK2.out.three.out.facts
  go_wp2_with fail
  refine bodyPost_ret (v := (HD.mk ht hl 0 hr hx).v) (by simp [results, Try.results36, go_sem, o0, o1, o2, o3, o4, of]) rfl ?_
  exact (HK2.out.setS HOLD.out 0).done HOLD.out _ _ rfl rfl rfl _ _ _ _ _

set_option maxRecDepth 100000 in
set_option maxHeartbeats 4000000 in
theorem rmDrop_7n (m : PM) (h : HD) (w : World) (B b : Nat) (vw : Value) (s : MS) (hm : Ref w B b vw s) (hz : m.size ≤ (s.zs.length : Int)) (hmay : mayH m h) (hsv : h.s = 7) (hy : ¬ s.vAt (m.at_ 3 h.l 0) = idF m h.t h.l) :
    Calls Try.prog 36 #[m.v, .pointer (some ⟨b, 0, none⟩), h.v] w (HandRet 74 2 ⟨h.t, h.l, 6, h.rd, h.x⟩ (s.swapped (m.at_ 3 h.l 0) (idF m h.t h.l) 0) B b vw w) := by
  have HST := hid (TkAt.start 74 29 2 m h h0 hm)
  have HOLD := hid hm.hold
  have HMY := hid (fun (x : World) => rMayH_any m h x)
  have hy1 := mayHB_yes hmay
  simp only [hy1] at HMY
  clear hy1
  have HL1 := hid (fun (x : World) => refNode_any m h.t h.l 1 x)
  have ho := hmay.1
  have HLK := hid (fun (x : World) => refLock_any m h.l 0 x)
  have HIX := hid (fun (x : World) => rId_any m h.t h.l x)
  have hp := lock_in hmay (p := 0) (by decide) (by decide)
  have hok := MS.okAt_in (s := s) (p := m.at_ 3 h.l 0) (o := idF m h.t h.l) hp.2.1 (by omega)
  have HMO := hid (fun (x : World) (hb : Ref x B b vw s) => rSwap_at (m.at_ 3 h.l 0) (idF m h.t h.l) 0 x B b vw s hb)
  simp only [hok] at HMO
  simp only [decide_eq_false hy] at HMO
  clear hp hok hy
  clear hmay ho hm hz
  generalize m.node h.t h.l 1 = l0 at *
  generalize idF m h.t h.l = i at *
  generalize m.at_ 3 h.l 0 = p at *
  generalize s.eAt p = ee at *
  generalize s.vAt p = y at *
  obtain ⟨s1, ml, mt, c, d⟩ := m
  obtain ⟨ht, hl, hs, hr, hx⟩ := h
  simp only at hsv
  subst hsv
  show Calls _ _ #[.agg #[.int .i64 s1, .int .i64 ml, .int .i64 mt, .int .i64 c, .int .i64 d], _, .agg #[.int .i64 ht, .int .i64 hl, .int .i64 7, .bool hr, .int .i64 hx]] _ _
  go_enter Try.func36, Try.ntmps36
  go_upto_region 1 with fail
  refine wp_rename _ HST.out ?_
  intro W hk
  have HK := hid hk
  obtain ⟨m0, m1, m2, m3, m4, _⟩ := hk.three.map.facts
  obtain ⟨d0, d1, d2, d3, d4, df⟩ := hk.three.box.facts
  obtain ⟨o0, o1, o2, o3, o4, of⟩ := hk.three.out.facts
  clear hk HST
  go_upto_region 13 with (first | (go_at_call 37; (with_reducible refine (HMY.out _).mono ?_); rintro e w1 ⟨rfl, hb1⟩; have HK := hid (HK.out.below hb1); clear hb1; clear m0 m1 m2 m3 m4 d0 d1 d2 d3 d4 df o0 o1 o2 o3 o4 of; obtain ⟨m0, m1, m2, m3, m4, _⟩ := HK.out.three.map.facts; obtain ⟨d0, d1, d2, d3, d4, df⟩ := HK.out.three.box.facts; obtain ⟨o0, o1, o2, o3, o4, of⟩ := HK.out.three.out.facts) | (go_at_call 13; (with_reducible refine (HL1.out _).mono ?_); rintro e w2 ⟨rfl, hb2⟩; have HK := hid (HK.out.below hb2); clear hb2; clear m0 m1 m2 m3 m4 d0 d1 d2 d3 d4 df o0 o1 o2 o3 o4 of; obtain ⟨m0, m1, m2, m3, m4, _⟩ := HK.out.three.map.facts; obtain ⟨d0, d1, d2, d3, d4, df⟩ := HK.out.three.box.facts; obtain ⟨o0, o1, o2, o3, o4, of⟩ := HK.out.three.out.facts))
  have hne1 : Nonempty (Sat (fun W => ∃ ms, TkAt 74 29 2 w ⟨s1, ml, mt, c, d⟩ ⟨ht, hl, 7, hr, hx⟩ h0 B b vw ms W)) := ⟨⟨_, _, HK.out⟩⟩
  have hne2 : Nonempty (Sat (fun _ => True)) := ⟨⟨w, trivial⟩⟩
  have hcells := fun (x : Sat (fun W => ∃ ms, TkAt 74 29 2 w ⟨s1, ml, mt, c, d⟩ ⟨ht, hl, 7, hr, hx⟩ h0 B b vw ms W)) => TkAt.cells x.p
  have y0 := fun x => (hcells x).1
  have y1 := fun x => (hcells x).2.1
  have y2 := fun x => (hcells x).2.2.1
  have y3 := fun x => (hcells x).2.2.2.1
  have y4 := fun x => (hcells x).2.2.2.2.1
  have y5 := fun x => (hcells x).2.2.2.2.2.1
  have y6 := fun x => (hcells x).2.2.2.2.2.2.1
  have y7 := fun x => (hcells x).2.2.2.2.2.2.2.1
  have y8 := fun x => (hcells x).2.2.2.2.2.2.2.2.1
  have y9 := fun x => (hcells x).2.2.2.2.2.2.2.2.2
  clear hcells
  clear m0 m1 m2 m3 m4 d0 d1 d2 d3 d4 df o0 o1 o2 o3 o4 of
  generalize hs2 : s.swapped p i 0 = s2 at *
  clear hs2
  refine wp_region_staged (Qu2 74 29 2 w ⟨s1, ml, mt, c, d⟩ ⟨ht, hl, 7, hr, hx⟩ h0 B b vw s s2) (by kernel_rfl) (by kernel_rfl) (fun L hL => by unfold Qu2; rw [hL 11]; exact HK.out.below (bdrew (bid _))) ?_
  refine wpS_plain (fun _ => True) (fun _ _ _ _ _ => trivial) (fun _ _ h => h) rfl rfl ?_
  intro KK hKK
  go_big_quiet_op
  go_big_quiet_on
  refine wpS_plain (fun W => ∃ ms, TkAt 74 29 2 w ⟨s1, ml, mt, c, d⟩ ⟨ht, hl, 7, hr, hx⟩ h0 B b vw ms W) (fun L W hL hcl hd => ⟨_, hd⟩) (fun _ _ h => h) rfl rfl ?_
  intro KK hKK
  go_big_quiet_op
  go_big_quiet_on
  refine wpS_plain (fun _ => True) (fun _ _ _ _ _ => trivial) (fun _ _ h => h) rfl rfl ?_
  intro KK hKK
  go_big_quiet_op
  go_big_quiet_on
  refine wpS_plain (fun W => ∃ ms, TkAt 74 29 2 w ⟨s1, ml, mt, c, d⟩ ⟨ht, hl, 7, hr, hx⟩ h0 B b vw ms W) (fun L W hL hcl hd => ⟨_, hd⟩) (fun _ _ h => h) rfl rfl ?_
  intro KK hKK
  go_big_quiet_op
  go_big_quiet_on
  refine wpS_call 12 #[(PM.mk s1 ml mt c d).v, .int .i64 hl, .int .i64 0] (.int .i64 p) rfl (fun _ => by go_simp) ?_ ?_
  · intro L W hL hcl hd
    refine (HLK.out W).mono ?_
    rintro e w'' ⟨rfl, hb⟩
    exact ⟨rfl, TkAt.below hd hb⟩
  (try simp only [Act.put, List.getElem_toArray, List.getElem_cons_zero, List.getElem_cons_succ, List.setIfInBounds_toArray, List.set_cons_zero, List.set_cons_succ])
  refine wpS_plain (fun W => ∃ ms, TkAt 74 29 2 w ⟨s1, ml, mt, c, d⟩ ⟨ht, hl, 7, hr, hx⟩ h0 B b vw ms W) (fun L W hL hcl hd => ⟨_, hd⟩) (fun _ _ h => h) rfl rfl ?_
  intro KK hKK
  go_big_quiet_op
  go_big_quiet_on
  refine wpS_plain (fun _ => True) (fun _ _ _ _ _ => trivial) (fun _ _ h => h) rfl rfl ?_
  intro KK hKK
  go_big_quiet_op
  go_big_quiet_on
  refine wpS_plain (fun W => ∃ ms, TkAt 74 29 2 w ⟨s1, ml, mt, c, d⟩ ⟨ht, hl, 7, hr, hx⟩ h0 B b vw ms W) (fun L W hL hcl hd => ⟨_, hd⟩) (fun _ _ h => h) rfl rfl ?_
  intro KK hKK
  go_big_quiet_op
  go_big_quiet_on
  refine wpS_plain (fun _ => True) (fun _ _ _ _ _ => trivial) (fun _ _ h => h) rfl rfl ?_
  intro KK hKK
  go_big_quiet_op
  go_big_quiet_on
  refine wpS_plain (fun W => ∃ ms, TkAt 74 29 2 w ⟨s1, ml, mt, c, d⟩ ⟨ht, hl, 7, hr, hx⟩ h0 B b vw ms W) (fun L W hL hcl hd => ⟨_, hd⟩) (fun _ _ h => h) rfl rfl ?_
  intro KK hKK
  go_big_quiet_op
  go_big_quiet_on
  refine wpS_call 62 #[(PM.mk s1 ml mt c d).v, .int .i64 ht, .int .i64 hl] (.int .i64 i) rfl (fun _ => by go_simp) ?_ ?_
  · intro L W hL hcl hd
    refine (HIX.out W).mono ?_
    rintro e w'' ⟨rfl, hb⟩
    exact ⟨rfl, TkAt.below hd hb⟩
  (try simp only [Act.put, List.getElem_toArray, List.getElem_cons_zero, List.getElem_cons_succ, List.setIfInBounds_toArray, List.set_cons_zero, List.set_cons_succ])
  refine wpS_call 61 #[.pointer (some ⟨b, 0, none⟩), .int .i64 p, .int .i64 i, .int .i64 0] (.tuple #[.int .i64 y, .bool false, .int .i64 ee]) rfl (fun _ => by go_simp) ?_ ?_
  · intro L W hL hcl hd
    have hd1 : TkAt 74 29 2 w ⟨s1, ml, mt, c, d⟩ ⟨ht, hl, 7, hr, hx⟩ h0 B b vw s W := by unfold Qu2 at hd; rw [hL] at hd; exact hd
    refine (HMO.out W hd1.mem).mono ?_
    rintro e w'' ⟨rfl, hm, hw⟩
    exact ⟨rfl, hd1.next hm hw HOLD.out⟩
  (try simp only [Act.put, List.getElem_toArray, List.getElem_cons_zero, List.getElem_cons_succ, List.setIfInBounds_toArray, List.set_cons_zero, List.set_cons_succ])
  refine wpS_plain (fun _ => True) (fun _ _ _ _ _ => trivial) (fun _ _ h => h) rfl rfl ?_
  intro KK hKK
  go_big_quiet_op
  go_big_quiet_on
  refine wpS_plain (fun _ => True) (fun _ _ _ _ _ => trivial) (fun _ _ h => h) rfl rfl ?_
  intro KK hKK
  go_big_quiet_op
  go_big_quiet_on
  refine wpS_plain (fun _ => True) (fun _ _ _ _ _ => trivial) (fun _ _ h => h) rfl rfl ?_
  intro KK hKK
  go_big_quiet_op
  go_big_quiet_on
  refine wpS_plain (fun _ => True) (fun _ _ _ _ _ => trivial) (fun _ _ h => h) rfl rfl ?_
  intro KK hKK
  go_big_quiet_op
  go_big_quiet_on
  refine wpS_plain (fun _ => True) (fun _ _ _ _ _ => trivial) (fun _ _ h => h) rfl rfl ?_
  intro KK hKK
  go_big_quiet_op
  go_big_quiet_on
  refine wpS_plain (fun _ => True) (fun _ _ _ _ _ => trivial) (fun _ _ h => h) rfl rfl ?_
  intro KK hKK
  go_big_quiet_op
  go_big_quiet_on
  refine wpS_plain (fun _ => True) (fun _ _ _ _ _ => trivial) (fun _ _ h => h) rfl rfl ?_
  intro KK hKK
  go_big_quiet_op
  go_big_quiet_on
  intro L W2 hall hd
  have HK2 := hid (show TkAt 74 29 2 w ⟨s1, ml, mt, c, d⟩ ⟨ht, hl, 7, hr, hx⟩ h0 B b vw s2 W2 from by unfold Qu2 at hd; rw [hall 11 (by decide)] at hd; exact hd)
  clear hd hall y0 y1 y2 y3 y4 y5 y6 y7 y8 y9 hne1 hne2 HK HMO HLK HIX
  obtain ⟨d0, d1, d2, d3, d4, df⟩ := HK2.out.three.box.facts
  obtain ⟨o0, o1, o2, o3, o4, of⟩ := HK2.out.three.out.facts
  go_wp2_with fail
  refine bodyPost_ret (v := (HD.mk ht hl 6 hr hx).v) (by simp [results, Try.results36, go_sem, o0, o1, o2, o3, o4, of]) rfl ?_
  exact (HK2.out.setS HOLD.out 6).done HOLD.out _ _ rfl rfl rfl _ _ _ _ _

set_option maxRecDepth 100000 in
set_option maxHeartbeats 4000000 in
theorem rmDrop_8 (m : PM) (h : HD) (w : World) (B b : Nat) (vw : Value) (s : MS) (hm : Ref w B b vw s) (hz : m.size ≤ (s.zs.length : Int)) (hmay : mayH m h) (hsv : h.s = 8) (hpos : 0 ≤ nodeF m h.l h.x 0) :
    Calls Try.prog 36 #[m.v, .pointer (some ⟨b, 0, none⟩), h.v] w (HandRet 74 2 ⟨h.t, h.l, 0, h.rd, 0⟩ (s.stored (nodeF m h.l h.x 0) 0) B b vw w) := by
  have HST := hid (TkAt.start 74 29 2 m h h0 hm)
  have HOLD := hid hm.hold
  have HMY := hid (fun (x : World) => rMayH_any m h x)
  have hy1 := mayHB_yes hmay
  simp only [hy1] at HMY
  clear hy1
  have HL1 := hid (fun (x : World) => refNode_any m h.t h.l 1 x)
  have ho := hmay.1
  have HND := hid (fun (x : World) => rnode_any m h.l h.x 0 x ho)
  have HMO := hid (fun (x : World) (hb : Ref x B b vw s) => rStore_at (nodeF m h.l h.x 0) 0 x B b vw s hb)
  clear hmay ho hm hz
  generalize m.node h.t h.l 1 = l0 at *
  generalize nodeF m h.l h.x 0 = q at *
  generalize s.eAt q = ee at *
  obtain ⟨s1, ml, mt, c, d⟩ := m
  obtain ⟨ht, hl, hs, hr, hx⟩ := h
  simp only at hsv
  subst hsv
  show Calls _ _ #[.agg #[.int .i64 s1, .int .i64 ml, .int .i64 mt, .int .i64 c, .int .i64 d], _, .agg #[.int .i64 ht, .int .i64 hl, .int .i64 8, .bool hr, .int .i64 hx]] _ _
  go_enter Try.func36, Try.ntmps36
  go_upto_region 1 with fail
  refine wp_rename _ HST.out ?_
  intro W hk
  have HK := hid hk
  obtain ⟨m0, m1, m2, m3, m4, _⟩ := hk.three.map.facts
  obtain ⟨d0, d1, d2, d3, d4, df⟩ := hk.three.box.facts
  obtain ⟨o0, o1, o2, o3, o4, of⟩ := hk.three.out.facts
  clear hk HST
  go_wp2_with (first | (go_at_call 37; (with_reducible refine (HMY.out _).mono ?_); rintro e w1 ⟨rfl, hb1⟩; have HK := hid (HK.out.below hb1); clear hb1; clear m0 m1 m2 m3 m4 d0 d1 d2 d3 d4 df o0 o1 o2 o3 o4 of; obtain ⟨m0, m1, m2, m3, m4, _⟩ := HK.out.three.map.facts; obtain ⟨d0, d1, d2, d3, d4, df⟩ := HK.out.three.box.facts; obtain ⟨o0, o1, o2, o3, o4, of⟩ := HK.out.three.out.facts) | (go_at_call 13; (with_reducible refine (HL1.out _).mono ?_); rintro e w2 ⟨rfl, hb2⟩; have HK := hid (HK.out.below hb2); clear hb2; clear m0 m1 m2 m3 m4 d0 d1 d2 d3 d4 df o0 o1 o2 o3 o4 of; obtain ⟨m0, m1, m2, m3, m4, _⟩ := HK.out.three.map.facts; obtain ⟨d0, d1, d2, d3, d4, df⟩ := HK.out.three.box.facts; obtain ⟨o0, o1, o2, o3, o4, of⟩ := HK.out.three.out.facts) | (go_at_call 63; (with_reducible refine (HND.out _).mono ?_); rintro e w3 ⟨rfl, hb3⟩; have HK := hid (HK.out.below hb3); clear hb3; clear m0 m1 m2 m3 m4 d0 d1 d2 d3 d4 df o0 o1 o2 o3 o4 of; obtain ⟨m0, m1, m2, m3, m4, _⟩ := HK.out.three.map.facts; obtain ⟨d0, d1, d2, d3, d4, df⟩ := HK.out.three.box.facts; obtain ⟨o0, o1, o2, o3, o4, of⟩ := HK.out.three.out.facts) | (go_at_call 64; (with_reducible refine (HMO.out _ HK.out.mem).mono ?_); rintro e w4 ⟨rfl, hm4, hw4⟩; have HK := hid (HK.out.next hm4 hw4 HOLD.out); clear hm4 hw4; clear m0 m1 m2 m3 m4 d0 d1 d2 d3 d4 df o0 o1 o2 o3 o4 of; obtain ⟨m0, m1, m2, m3, m4, _⟩ := HK.out.three.map.facts; obtain ⟨d0, d1, d2, d3, d4, df⟩ := HK.out.three.box.facts; obtain ⟨o0, o1, o2, o3, o4, of⟩ := HK.out.three.out.facts))
  refine bodyPost_ret (v := (HD.mk ht hl 0 hr 0).v) (by simp [results, Try.results36, go_sem, o0, o1, o2, o3, o4, of]) rfl ?_
  exact ((HK.out.setS HOLD.out 0).setX HOLD.out 0).done HOLD.out _ _ rfl rfl rfl _ _ _ _ _

set_option maxRecDepth 100000 in
set_option maxHeartbeats 4000000 in
theorem rmDrop_8n (m : PM) (h : HD) (w : World) (B b : Nat) (vw : Value) (s : MS) (hm : Ref w B b vw s) (hz : m.size ≤ (s.zs.length : Int)) (hmay : mayH m h) (hsv : h.s = 8) (hnp : ¬ 0 ≤ nodeF m h.l h.x 0) :
    Calls Try.prog 36 #[m.v, .pointer (some ⟨b, 0, none⟩), h.v] w (HandRet 74 2 h s B b vw w) := by
  have HST := hid (TkAt.start 74 29 2 m h h0 hm)
  have HOLD := hid hm.hold
  have HMY := hid (fun (x : World) => rMayH_any m h x)
  have hy1 := mayHB_yes hmay
  simp only [hy1] at HMY
  clear hy1
  have HL1 := hid (fun (x : World) => refNode_any m h.t h.l 1 x)
  have ho := hmay.1
  have HND := hid (fun (x : World) => rnode_any m h.l h.x 0 x ho)
  clear hmay ho hm hz
  generalize m.node h.t h.l 1 = l0 at *
  have hnp1 : nodeF m h.l h.x 0 < 0 := by omega
  clear hnp
  generalize nodeF m h.l h.x 0 = q at *
  obtain ⟨s1, ml, mt, c, d⟩ := m
  obtain ⟨ht, hl, hs, hr, hx⟩ := h
  simp only at hsv
  subst hsv
  show Calls _ _ #[.agg #[.int .i64 s1, .int .i64 ml, .int .i64 mt, .int .i64 c, .int .i64 d], _, .agg #[.int .i64 ht, .int .i64 hl, .int .i64 8, .bool hr, .int .i64 hx]] _ _
  go_enter Try.func36, Try.ntmps36
  go_upto_region 1 with fail
  refine wp_rename _ HST.out ?_
  intro W hk
  have HK := hid hk
  obtain ⟨m0, m1, m2, m3, m4, _⟩ := hk.three.map.facts
  obtain ⟨d0, d1, d2, d3, d4, df⟩ := hk.three.box.facts
  obtain ⟨o0, o1, o2, o3, o4, of⟩ := hk.three.out.facts
  clear hk HST
  go_wp2_with (first | (go_at_call 37; (with_reducible refine (HMY.out _).mono ?_); rintro e w1 ⟨rfl, hb1⟩; have HK := hid (HK.out.below hb1); clear hb1; clear m0 m1 m2 m3 m4 d0 d1 d2 d3 d4 df o0 o1 o2 o3 o4 of; obtain ⟨m0, m1, m2, m3, m4, _⟩ := HK.out.three.map.facts; obtain ⟨d0, d1, d2, d3, d4, df⟩ := HK.out.three.box.facts; obtain ⟨o0, o1, o2, o3, o4, of⟩ := HK.out.three.out.facts) | (go_at_call 13; (with_reducible refine (HL1.out _).mono ?_); rintro e w2 ⟨rfl, hb2⟩; have HK := hid (HK.out.below hb2); clear hb2; clear m0 m1 m2 m3 m4 d0 d1 d2 d3 d4 df o0 o1 o2 o3 o4 of; obtain ⟨m0, m1, m2, m3, m4, _⟩ := HK.out.three.map.facts; obtain ⟨d0, d1, d2, d3, d4, df⟩ := HK.out.three.box.facts; obtain ⟨o0, o1, o2, o3, o4, of⟩ := HK.out.three.out.facts) | (go_at_call 63; (with_reducible refine (HND.out _).mono ?_); rintro e w3 ⟨rfl, hb3⟩; have HK := hid (HK.out.below hb3); clear hb3; clear m0 m1 m2 m3 m4 d0 d1 d2 d3 d4 df o0 o1 o2 o3 o4 of; obtain ⟨m0, m1, m2, m3, m4, _⟩ := HK.out.three.map.facts; obtain ⟨d0, d1, d2, d3, d4, df⟩ := HK.out.three.box.facts; obtain ⟨o0, o1, o2, o3, o4, of⟩ := HK.out.three.out.facts))
  refine bodyPost_ret (v := (HD.mk ht hl 8 hr hx).v) (by simp [results, Try.results36, go_sem, o0, o1, o2, o3, o4, of]) rfl ?_
  exact HK.out.done HOLD.out _ _ rfl rfl rfl _ _ _ _ _

set_option maxRecDepth 100000 in
set_option maxHeartbeats 4000000 in
theorem rmDrop_q (m : PM) (h : HD) (w : World) (B b : Nat) (vw : Value) (s : MS) (hm : Ref w B b vw s) (hz : m.size ≤ (s.zs.length : Int)) (hmay : mayH m h) (q9 : ¬ h.s = 9) (q6 : ¬ h.s = 6) (q7 : ¬ h.s = 7) (q8 : ¬ h.s = 8) :
    Calls Try.prog 36 #[m.v, .pointer (some ⟨b, 0, none⟩), h.v] w (HandRet 74 2 h s B b vw w) := by
  have HST := hid (TkAt.start 74 29 2 m h h0 hm)
  have HOLD := hid hm.hold
  have HMY := hid (fun (x : World) => rMayH_any m h x)
  have hy1 := mayHB_yes hmay
  simp only [hy1] at HMY
  clear hy1
  have HL1 := hid (fun (x : World) => refNode_any m h.t h.l 1 x)
  have ho := hmay.1
  clear hmay ho hm hz
  generalize m.node h.t h.l 1 = l0 at *
  obtain ⟨s1, ml, mt, c, d⟩ := m
  obtain ⟨ht, hl, hs, hr, hx⟩ := h
  simp only at q9 q6 q7 q8
  show Calls _ _ #[.agg #[.int .i64 s1, .int .i64 ml, .int .i64 mt, .int .i64 c, .int .i64 d], _, .agg #[.int .i64 ht, .int .i64 hl, .int .i64 hs, .bool hr, .int .i64 hx]] _ _
  go_enter Try.func36, Try.ntmps36
  go_upto_region 1 with fail
  refine wp_rename _ HST.out ?_
  intro W hk
  have HK := hid hk
  obtain ⟨m0, m1, m2, m3, m4, _⟩ := hk.three.map.facts
  obtain ⟨d0, d1, d2, d3, d4, df⟩ := hk.three.box.facts
  obtain ⟨o0, o1, o2, o3, o4, of⟩ := hk.three.out.facts
  clear hk HST
  go_wp2_with (first | (go_at_call 37; (with_reducible refine (HMY.out _).mono ?_); rintro e w1 ⟨rfl, hb1⟩; have HK := hid (HK.out.below hb1); clear hb1; clear m0 m1 m2 m3 m4 d0 d1 d2 d3 d4 df o0 o1 o2 o3 o4 of; obtain ⟨m0, m1, m2, m3, m4, _⟩ := HK.out.three.map.facts; obtain ⟨d0, d1, d2, d3, d4, df⟩ := HK.out.three.box.facts; obtain ⟨o0, o1, o2, o3, o4, of⟩ := HK.out.three.out.facts) | (go_at_call 13; (with_reducible refine (HL1.out _).mono ?_); rintro e w2 ⟨rfl, hb2⟩; have HK := hid (HK.out.below hb2); clear hb2; clear m0 m1 m2 m3 m4 d0 d1 d2 d3 d4 df o0 o1 o2 o3 o4 of; obtain ⟨m0, m1, m2, m3, m4, _⟩ := HK.out.three.map.facts; obtain ⟨d0, d1, d2, d3, d4, df⟩ := HK.out.three.box.facts; obtain ⟨o0, o1, o2, o3, o4, of⟩ := HK.out.three.out.facts))
  refine bodyPost_ret (v := (HD.mk ht hl hs hr hx).v) (by simp [results, Try.results36, go_sem, o0, o1, o2, o3, o4, of]) rfl ?_
  exact HK.out.done HOLD.out _ _ rfl rfl rfl _ _ _ _ _

theorem rmDrop_any (m : PM) (h : HD) (w : World) (B b : Nat) (vw : Value) (s : MS) (hm : Ref w B b vw s) (hz : m.size ≤ (s.zs.length : Int)) :
    Calls Try.prog 36 #[m.v, .pointer (some ⟨b, 0, none⟩), h.v] w (HandRet 74 2 (mcDrop m s h).1 (mcDrop m s h).2 B b vw w) := by
  unfold mcDrop
  by_cases hmay : mayH m h
  · rw [if_pos hmay]
    by_cases q9 : h.s = 9
    · rw [if_pos q9]
      by_cases c : s.vAt (m.node h.t h.l 1) = 0
      · rw [if_pos c]; exact rmDrop_9 m h w B b vw s hm hz hmay q9 c
      · rw [if_neg c]; exact rmDrop_9n m h w B b vw s hm hz hmay q9 c
    rw [if_neg q9]
    by_cases q6 : h.s = 6
    · rw [if_pos q6]
      by_cases c : s.vAt (m.node h.t h.l 1) = 0
      · rw [if_pos c]; exact rmDrop_6 m h w B b vw s hm hz hmay q6 c
      · rw [if_neg c]; exact rmDrop_6n m h w B b vw s hm hz hmay q6 c
    rw [if_neg q6]
    by_cases q7 : h.s = 7
    · rw [if_pos q7]
      by_cases c : s.vAt (m.at_ 3 h.l 0) = idF m h.t h.l
      · rw [if_pos c]; exact rmDrop_7 m h w B b vw s hm hz hmay q7 c
      · rw [if_neg c]; exact rmDrop_7n m h w B b vw s hm hz hmay q7 c
    rw [if_neg q7]
    by_cases q8 : h.s = 8
    · rw [if_pos q8]
      by_cases c : 0 ≤ nodeF m h.l h.x 0
      · rw [if_pos c]; exact rmDrop_8 m h w B b vw s hm hz hmay q8 c
      · rw [if_neg c]; exact rmDrop_8n m h w B b vw s hm hz hmay q8 c
    rw [if_neg q8]
    exact rmDrop_q m h w B b vw s hm hz hmay q9 q6 q7 q8
  · rw [if_neg hmay]
    exact rmDrop_no m h w B b vw s hm hz hmay

end Go.Proofs.Ytmcmajndcbobpaa
