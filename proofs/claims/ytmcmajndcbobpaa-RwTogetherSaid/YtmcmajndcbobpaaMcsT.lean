/-
  THE CONTRACT of mcs.Take.
-/
import Derived.Test.YtmcmajndcbobpaaMcsQ
namespace Go.Proofs.Ytmcmajndcbobpaa
open Go.RowKit
attribute [local go_sem] Later.cell Later.frozen

set_option maxRecDepth 100000 in
set_option maxHeartbeats 4000000 in
theorem mTake_no (m : PM) (h : HD) (w : World) (B b : Nat) (vw : Value) (s : MS) (hm : Mem w B b vw s) (hz : m.size ≤ (s.zs.length : Int)) (hmay : ¬ mayH m h) :
    Calls Try.prog 39 #[m.v, .pointer (some ⟨b, 0, none⟩), h.v] w (HandRet 72 2 h s B b vw w) := by
  have HST := hid (TkAt.start 72 26 2 m h h0 hm)
  have HOLD := hid hm.hold
  have HID := hid (fun (x : World) => Id_any m h.t h.l x)
  have HWH := hid (fun (x : World) (hb : Mem x B b vw s) => mwhole_yes m x B b vw s hb hz)
  have hi0 := idF_not hmay
  simp only [hi0] at HID
  clear hmay hm hz hi0 HWH
  obtain ⟨s1, ml, mt, c, d⟩ := m
  obtain ⟨ht, hl, hs, hr, hx⟩ := h
  show Calls _ _ #[.agg #[.int .i64 s1, .int .i64 ml, .int .i64 mt, .int .i64 c, .int .i64 d], _, .agg #[.int .i64 ht, .int .i64 hl, .int .i64 hs, .bool hr, .int .i64 hx]] _ _
  go_enter Try.func39, Try.ntmps39
  go_upto_region 1 with fail
  refine wp_rename _ HST.out ?_
  intro W hk
  have HK := hid hk
  obtain ⟨m0, m1, m2, m3, m4, _⟩ := hk.three.map.facts
  obtain ⟨d0, d1, d2, d3, d4, df⟩ := hk.three.box.facts
  obtain ⟨o0, o1, o2, o3, o4, of⟩ := hk.three.out.facts
  clear hk HST
  go_wp2_with ((go_at_call 54; (with_reducible refine (HID.out _).mono ?_); rintro e w1 ⟨rfl, hb1⟩; have HK := hid (HK.out.below hb1); clear hb1; clear m0 m1 m2 m3 m4 d0 d1 d2 d3 d4 df o0 o1 o2 o3 o4 of; obtain ⟨m0, m1, m2, m3, m4, _⟩ := HK.out.three.map.facts; obtain ⟨d0, d1, d2, d3, d4, df⟩ := HK.out.three.box.facts; obtain ⟨o0, o1, o2, o3, o4, of⟩ := HK.out.three.out.facts))
  refine bodyPost_ret (v := (HD.mk ht hl hs hr hx).v) (by simp [results, Try.results39, go_sem, o0, o1, o2, o3, o4, of]) rfl ?_
  exact HK.out.done HOLD.out _ _ rfl rfl rfl _ _ _ _ _

set_option maxRecDepth 100000 in
set_option maxHeartbeats 4000000 in
theorem mTake_0 (m : PM) (h : HD) (w : World) (B b : Nat) (vw : Value) (s : MS) (hm : Mem w B b vw s) (hz : m.size ≤ (s.zs.length : Int)) (hmay : mayH m h) (hsv : h.s = 0) :
    Calls Try.prog 39 #[m.v, .pointer (some ⟨b, 0, none⟩), h.v] w (HandRet 72 2 ⟨h.t, h.l, 1, h.rd, h.x⟩ (s.stored (m.node h.t h.l 0) 1) B b vw w) := by
  have HST := hid (TkAt.start 72 26 2 m h h0 hm)
  have HOLD := hid hm.hold
  have HID := hid (fun (x : World) => Id_any m h.t h.l x)
  have HWH := hid (fun (x : World) (hb : Mem x B b vw s) => mwhole_yes m x B b vw s hb hz)
  have hip := idF_pos hmay
  have hib : (idF m h.t h.l == 0) = false := by simp; omega
  have HND := hid (fun (x : World) => (show Calls Try.prog 56 #[m.v, .int .i64 h.l, .int .i64 (idF m h.t h.l), .int .i64 0] x fun e w' => e = .returned (.int .i64 (m.node h.t h.l 0)) ∧ Below x.heap.size x w' from by have := mnode_any m h.l (idF m h.t h.l) 0 x; rwa [nodeF_id hmay] at this))
  have HMO := hid (fun (x : World) (hb : Mem x B b vw s) => Store_at (m.node h.t h.l 0) 1 x B b vw s hb)
  clear hmay hip hm hz
  generalize idF m h.t h.l = i at *
  generalize m.node h.t h.l 0 = p at *
  generalize s.eAt p = ee at *
  obtain ⟨s1, ml, mt, c, d⟩ := m
  obtain ⟨ht, hl, hs, hr, hx⟩ := h
  simp only at hsv
  subst hsv
  show Calls _ _ #[.agg #[.int .i64 s1, .int .i64 ml, .int .i64 mt, .int .i64 c, .int .i64 d], _, .agg #[.int .i64 ht, .int .i64 hl, .int .i64 0, .bool hr, .int .i64 hx]] _ _
  go_enter Try.func39, Try.ntmps39
  go_upto_region 1 with fail
  refine wp_rename _ HST.out ?_
  intro W hk
  have HK := hid hk
  obtain ⟨m0, m1, m2, m3, m4, _⟩ := hk.three.map.facts
  obtain ⟨d0, d1, d2, d3, d4, df⟩ := hk.three.box.facts
  obtain ⟨o0, o1, o2, o3, o4, of⟩ := hk.three.out.facts
  clear hk HST
  go_wp2_with (first | (go_at_call 54; (with_reducible refine (HID.out _).mono ?_); rintro e w1 ⟨rfl, hb1⟩; have HK := hid (HK.out.below hb1); clear hb1; clear m0 m1 m2 m3 m4 d0 d1 d2 d3 d4 df o0 o1 o2 o3 o4 of; obtain ⟨m0, m1, m2, m3, m4, _⟩ := HK.out.three.map.facts; obtain ⟨d0, d1, d2, d3, d4, df⟩ := HK.out.three.box.facts; obtain ⟨o0, o1, o2, o3, o4, of⟩ := HK.out.three.out.facts) | (go_at_call 55; (with_reducible refine (HWH.out _ HK.out.mem).mono ?_); rintro e w2 ⟨rfl, hb2⟩; have HK := hid (HK.out.below hb2); clear hb2; clear m0 m1 m2 m3 m4 d0 d1 d2 d3 d4 df o0 o1 o2 o3 o4 of; obtain ⟨m0, m1, m2, m3, m4, _⟩ := HK.out.three.map.facts; obtain ⟨d0, d1, d2, d3, d4, df⟩ := HK.out.three.box.facts; obtain ⟨o0, o1, o2, o3, o4, of⟩ := HK.out.three.out.facts) | (go_at_call 56; (with_reducible refine (HND.out _).mono ?_); rintro e w3 ⟨rfl, hb3⟩; have HK := hid (HK.out.below hb3); clear hb3; clear m0 m1 m2 m3 m4 d0 d1 d2 d3 d4 df o0 o1 o2 o3 o4 of; obtain ⟨m0, m1, m2, m3, m4, _⟩ := HK.out.three.map.facts; obtain ⟨d0, d1, d2, d3, d4, df⟩ := HK.out.three.box.facts; obtain ⟨o0, o1, o2, o3, o4, of⟩ := HK.out.three.out.facts) | (go_at_call 59; (with_reducible refine (HMO.out _ HK.out.mem).mono ?_); rintro e w4 ⟨rfl, hm4, hw4⟩; have HK := hid (HK.out.next hm4 hw4 HOLD.out); clear hm4 hw4; clear m0 m1 m2 m3 m4 d0 d1 d2 d3 d4 df o0 o1 o2 o3 o4 of; obtain ⟨m0, m1, m2, m3, m4, _⟩ := HK.out.three.map.facts; obtain ⟨d0, d1, d2, d3, d4, df⟩ := HK.out.three.box.facts; obtain ⟨o0, o1, o2, o3, o4, of⟩ := HK.out.three.out.facts))
  refine bodyPost_ret (v := (HD.mk ht hl 1 hr hx).v) (by simp [results, Try.results39, go_sem, o0, o1, o2, o3, o4, of]) rfl ?_
  exact (HK.out.setS HOLD.out 1).done HOLD.out _ _ rfl rfl rfl _ _ _ _ _

set_option maxRecDepth 100000 in
set_option maxHeartbeats 4000000 in
theorem mTake_1 (m : PM) (h : HD) (w : World) (B b : Nat) (vw : Value) (s : MS) (hm : Mem w B b vw s) (hz : m.size ≤ (s.zs.length : Int)) (hmay : mayH m h) (hsv : h.s = 1) :
    Calls Try.prog 39 #[m.v, .pointer (some ⟨b, 0, none⟩), h.v] w (HandRet 72 2 ⟨h.t, h.l, 2, h.rd, h.x⟩ (s.stored (m.node h.t h.l 1) 0) B b vw w) := by
  have HST := hid (TkAt.start 72 26 2 m h h0 hm)
  have HOLD := hid hm.hold
  have HID := hid (fun (x : World) => Id_any m h.t h.l x)
  have HWH := hid (fun (x : World) (hb : Mem x B b vw s) => mwhole_yes m x B b vw s hb hz)
  have hip := idF_pos hmay
  have hib : (idF m h.t h.l == 0) = false := by simp; omega
  have HND := hid (fun (x : World) => (show Calls Try.prog 56 #[m.v, .int .i64 h.l, .int .i64 (idF m h.t h.l), .int .i64 1] x fun e w' => e = .returned (.int .i64 (m.node h.t h.l 1)) ∧ Below x.heap.size x w' from by have := mnode_any m h.l (idF m h.t h.l) 1 x; rwa [nodeF_id hmay] at this))
  have HMO := hid (fun (x : World) (hb : Mem x B b vw s) => Store_at (m.node h.t h.l 1) 0 x B b vw s hb)
  clear hmay hip hm hz
  generalize idF m h.t h.l = i at *
  generalize m.node h.t h.l 1 = p at *
  generalize s.eAt p = ee at *
  obtain ⟨s1, ml, mt, c, d⟩ := m
  obtain ⟨ht, hl, hs, hr, hx⟩ := h
  simp only at hsv
  subst hsv
  show Calls _ _ #[.agg #[.int .i64 s1, .int .i64 ml, .int .i64 mt, .int .i64 c, .int .i64 d], _, .agg #[.int .i64 ht, .int .i64 hl, .int .i64 1, .bool hr, .int .i64 hx]] _ _
  go_enter Try.func39, Try.ntmps39
  go_upto_region 1 with fail
  refine wp_rename _ HST.out ?_
  intro W hk
  have HK := hid hk
  obtain ⟨m0, m1, m2, m3, m4, _⟩ := hk.three.map.facts
  obtain ⟨d0, d1, d2, d3, d4, df⟩ := hk.three.box.facts
  obtain ⟨o0, o1, o2, o3, o4, of⟩ := hk.three.out.facts
  clear hk HST
  go_wp2_with (first | (go_at_call 54; (with_reducible refine (HID.out _).mono ?_); rintro e w1 ⟨rfl, hb1⟩; have HK := hid (HK.out.below hb1); clear hb1; clear m0 m1 m2 m3 m4 d0 d1 d2 d3 d4 df o0 o1 o2 o3 o4 of; obtain ⟨m0, m1, m2, m3, m4, _⟩ := HK.out.three.map.facts; obtain ⟨d0, d1, d2, d3, d4, df⟩ := HK.out.three.box.facts; obtain ⟨o0, o1, o2, o3, o4, of⟩ := HK.out.three.out.facts) | (go_at_call 55; (with_reducible refine (HWH.out _ HK.out.mem).mono ?_); rintro e w2 ⟨rfl, hb2⟩; have HK := hid (HK.out.below hb2); clear hb2; clear m0 m1 m2 m3 m4 d0 d1 d2 d3 d4 df o0 o1 o2 o3 o4 of; obtain ⟨m0, m1, m2, m3, m4, _⟩ := HK.out.three.map.facts; obtain ⟨d0, d1, d2, d3, d4, df⟩ := HK.out.three.box.facts; obtain ⟨o0, o1, o2, o3, o4, of⟩ := HK.out.three.out.facts) | (go_at_call 56; (with_reducible refine (HND.out _).mono ?_); rintro e w3 ⟨rfl, hb3⟩; have HK := hid (HK.out.below hb3); clear hb3; clear m0 m1 m2 m3 m4 d0 d1 d2 d3 d4 df o0 o1 o2 o3 o4 of; obtain ⟨m0, m1, m2, m3, m4, _⟩ := HK.out.three.map.facts; obtain ⟨d0, d1, d2, d3, d4, df⟩ := HK.out.three.box.facts; obtain ⟨o0, o1, o2, o3, o4, of⟩ := HK.out.three.out.facts) | (go_at_call 59; (with_reducible refine (HMO.out _ HK.out.mem).mono ?_); rintro e w4 ⟨rfl, hm4, hw4⟩; have HK := hid (HK.out.next hm4 hw4 HOLD.out); clear hm4 hw4; clear m0 m1 m2 m3 m4 d0 d1 d2 d3 d4 df o0 o1 o2 o3 o4 of; obtain ⟨m0, m1, m2, m3, m4, _⟩ := HK.out.three.map.facts; obtain ⟨d0, d1, d2, d3, d4, df⟩ := HK.out.three.box.facts; obtain ⟨o0, o1, o2, o3, o4, of⟩ := HK.out.three.out.facts))
  refine bodyPost_ret (v := (HD.mk ht hl 2 hr hx).v) (by simp [results, Try.results39, go_sem, o0, o1, o2, o3, o4, of]) rfl ?_
  exact (HK.out.setS HOLD.out 2).done HOLD.out _ _ rfl rfl rfl _ _ _ _ _

set_option maxRecDepth 100000 in
set_option maxHeartbeats 4000000 in
theorem mTake_2 (m : PM) (h : HD) (w : World) (B b : Nat) (vw : Value) (s : MS) (hm : Mem w B b vw s) (hz : m.size ≤ (s.zs.length : Int)) (hmay : mayH m h) (hsv : h.s = 2) :
    Calls Try.prog 39 #[m.v, .pointer (some ⟨b, 0, none⟩), h.v] w (HandRet 72 2 ⟨h.t, h.l, 3, h.rd, s.vAt (m.at_ 3 h.l 0)⟩ (s.loaded (m.at_ 3 h.l 0)) B b vw w) := by
  have HST := hid (TkAt.start 72 26 2 m h h0 hm)
  have HOLD := hid hm.hold
  have HID := hid (fun (x : World) => Id_any m h.t h.l x)
  have HWH := hid (fun (x : World) (hb : Mem x B b vw s) => mwhole_yes m x B b vw s hb hz)
  have hip := idF_pos hmay
  have hib : (idF m h.t h.l == 0) = false := by simp; omega
  have HTL := hid (fun (x : World) => tail_any m h.l x)
  have HMO := hid (fun (x : World) (hb : Mem x B b vw s) => Load_at (m.at_ 3 h.l 0) x B b vw s hb)
  clear hmay hip hm hz
  generalize idF m h.t h.l = i at *
  generalize m.at_ 3 h.l 0 = p at *
  generalize s.eAt p = ee at *
  generalize s.vAt p = y at *
  obtain ⟨s1, ml, mt, c, d⟩ := m
  obtain ⟨ht, hl, hs, hr, hx⟩ := h
  simp only at hsv
  subst hsv
  show Calls _ _ #[.agg #[.int .i64 s1, .int .i64 ml, .int .i64 mt, .int .i64 c, .int .i64 d], _, .agg #[.int .i64 ht, .int .i64 hl, .int .i64 2, .bool hr, .int .i64 hx]] _ _
  go_enter Try.func39, Try.ntmps39
  go_upto_region 1 with fail
  refine wp_rename _ HST.out ?_
  intro W hk
  have HK := hid hk
  obtain ⟨m0, m1, m2, m3, m4, _⟩ := hk.three.map.facts
  obtain ⟨d0, d1, d2, d3, d4, df⟩ := hk.three.box.facts
  obtain ⟨o0, o1, o2, o3, o4, of⟩ := hk.three.out.facts
  clear hk HST
  go_wp2_with (first | (go_at_call 54; (with_reducible refine (HID.out _).mono ?_); rintro e w1 ⟨rfl, hb1⟩; have HK := hid (HK.out.below hb1); clear hb1; clear m0 m1 m2 m3 m4 d0 d1 d2 d3 d4 df o0 o1 o2 o3 o4 of; obtain ⟨m0, m1, m2, m3, m4, _⟩ := HK.out.three.map.facts; obtain ⟨d0, d1, d2, d3, d4, df⟩ := HK.out.three.box.facts; obtain ⟨o0, o1, o2, o3, o4, of⟩ := HK.out.three.out.facts) | (go_at_call 55; (with_reducible refine (HWH.out _ HK.out.mem).mono ?_); rintro e w2 ⟨rfl, hb2⟩; have HK := hid (HK.out.below hb2); clear hb2; clear m0 m1 m2 m3 m4 d0 d1 d2 d3 d4 df o0 o1 o2 o3 o4 of; obtain ⟨m0, m1, m2, m3, m4, _⟩ := HK.out.three.map.facts; obtain ⟨d0, d1, d2, d3, d4, df⟩ := HK.out.three.box.facts; obtain ⟨o0, o1, o2, o3, o4, of⟩ := HK.out.three.out.facts) | (go_at_call 58; (with_reducible refine (HTL.out _).mono ?_); rintro e w3 ⟨rfl, hb3⟩; have HK := hid (HK.out.below hb3); clear hb3; clear m0 m1 m2 m3 m4 d0 d1 d2 d3 d4 df o0 o1 o2 o3 o4 of; obtain ⟨m0, m1, m2, m3, m4, _⟩ := HK.out.three.map.facts; obtain ⟨d0, d1, d2, d3, d4, df⟩ := HK.out.three.box.facts; obtain ⟨o0, o1, o2, o3, o4, of⟩ := HK.out.three.out.facts) | (go_at_call 40; (with_reducible refine (HMO.out _ HK.out.mem).mono ?_); rintro e w4 ⟨rfl, hm4, hw4⟩; have HK := hid (HK.out.next hm4 hw4 HOLD.out); clear hm4 hw4; clear m0 m1 m2 m3 m4 d0 d1 d2 d3 d4 df o0 o1 o2 o3 o4 of; obtain ⟨m0, m1, m2, m3, m4, _⟩ := HK.out.three.map.facts; obtain ⟨d0, d1, d2, d3, d4, df⟩ := HK.out.three.box.facts; obtain ⟨o0, o1, o2, o3, o4, of⟩ := HK.out.three.out.facts))
  refine bodyPost_ret (v := (HD.mk ht hl 3 hr y).v) (by simp [results, Try.results39, go_sem, o0, o1, o2, o3, o4, of]) rfl ?_
  exact ((HK.out.setX HOLD.out y).setS HOLD.out 3).done HOLD.out _ _ rfl rfl rfl _ _ _ _ _

set_option maxRecDepth 100000 in
set_option maxHeartbeats 4000000 in
theorem mTake_3 (m : PM) (h : HD) (w : World) (B b : Nat) (vw : Value) (s : MS) (hm : Mem w B b vw s) (hz : m.size ≤ (s.zs.length : Int)) (hmay : mayH m h) (hsv : h.s = 3) :
    Calls Try.prog 39 #[m.v, .pointer (some ⟨b, 0, none⟩), h.v] w (HandRet 72 2 (mcQueue m s h).1 (mcQueue m s h).2 B b vw w) := by
  have HST := hid (TkAt.start 72 26 2 m h h0 hm)
  have HOLD := hid hm.hold
  have HID := hid (fun (x : World) => Id_any m h.t h.l x)
  have HWH := hid (fun (x : World) (hb : Mem x B b vw s) => mwhole_yes m x B b vw s hb hz)
  have hip := idF_pos hmay
  have hib : (idF m h.t h.l == 0) = false := by simp; omega
  have HMO := hid (fun (x : World) (hb : Mem x B b vw s) => queue_any m h x B b vw s hb hz hmay (idF m h.t h.l) rfl)
  clear hmay hip hm hz
  generalize idF m h.t h.l = i at *
  generalize (mcQueue m s h).1 = g at *
  generalize (mcQueue m s h).2 = s2 at *
  obtain ⟨gt, gl, gs, gr, gx⟩ := g
  obtain ⟨s1, ml, mt, c, d⟩ := m
  obtain ⟨ht, hl, hs, hr, hx⟩ := h
  simp only at hsv
  subst hsv
  show Calls _ _ #[.agg #[.int .i64 s1, .int .i64 ml, .int .i64 mt, .int .i64 c, .int .i64 d], _, .agg #[.int .i64 ht, .int .i64 hl, .int .i64 3, .bool hr, .int .i64 hx]] _ _
  go_enter Try.func39, Try.ntmps39
  go_upto_region 1 with fail
  refine wp_rename _ HST.out ?_
  intro W hk
  have HK := hid hk
  obtain ⟨m0, m1, m2, m3, m4, _⟩ := hk.three.map.facts
  obtain ⟨d0, d1, d2, d3, d4, df⟩ := hk.three.box.facts
  obtain ⟨o0, o1, o2, o3, o4, of⟩ := hk.three.out.facts
  clear hk HST
  go_wp2_with (first | (go_at_call 54; (with_reducible refine (HID.out _).mono ?_); rintro e w1 ⟨rfl, hb1⟩; have HK := hid (HK.out.below hb1); clear hb1; clear m0 m1 m2 m3 m4 d0 d1 d2 d3 d4 df o0 o1 o2 o3 o4 of; obtain ⟨m0, m1, m2, m3, m4, _⟩ := HK.out.three.map.facts; obtain ⟨d0, d1, d2, d3, d4, df⟩ := HK.out.three.box.facts; obtain ⟨o0, o1, o2, o3, o4, of⟩ := HK.out.three.out.facts) | (go_at_call 55; (with_reducible refine (HWH.out _ HK.out.mem).mono ?_); rintro e w2 ⟨rfl, hb2⟩; have HK := hid (HK.out.below hb2); clear hb2; clear m0 m1 m2 m3 m4 d0 d1 d2 d3 d4 df o0 o1 o2 o3 o4 of; obtain ⟨m0, m1, m2, m3, m4, _⟩ := HK.out.three.map.facts; obtain ⟨d0, d1, d2, d3, d4, df⟩ := HK.out.three.box.facts; obtain ⟨o0, o1, o2, o3, o4, of⟩ := HK.out.three.out.facts) | (go_at_call 66; (with_reducible refine (HMO.out _ HK.out.mem).mono ?_); rintro e w4 ⟨rfl, hm4, hw4⟩; have HK := hid (HK.out.next hm4 hw4 HOLD.out); clear hm4 hw4; clear m0 m1 m2 m3 m4 d0 d1 d2 d3 d4 df o0 o1 o2 o3 o4 of; obtain ⟨m0, m1, m2, m3, m4, _⟩ := HK.out.three.map.facts; obtain ⟨d0, d1, d2, d3, d4, df⟩ := HK.out.three.box.facts; obtain ⟨o0, o1, o2, o3, o4, of⟩ := HK.out.three.out.facts))
  refine bodyPost_ret (v := (HD.mk gt gl gs gr gx).v) (by simp [results, Try.results39, go_sem, o0, o1, o2, o3, o4, of]) rfl ?_
  exact HandRet.done (w.heap.size + 1 + 1) (by omega) HOLD.out HK.out.mem HK.out.wrote rfl _ _ _ _ _

set_option maxRecDepth 100000 in
set_option maxHeartbeats 4000000 in
theorem mTake_4 (m : PM) (h : HD) (w : World) (B b : Nat) (vw : Value) (s : MS) (hm : Mem w B b vw s) (hz : m.size ≤ (s.zs.length : Int)) (hmay : mayH m h) (hsv : h.s = 4) (hpos : 0 ≤ nodeF m h.l h.x 1) :
    Calls Try.prog 39 #[m.v, .pointer (some ⟨b, 0, none⟩), h.v] w (HandRet 72 2 ⟨h.t, h.l, 5, h.rd, 0⟩ (s.stored (nodeF m h.l h.x 1) (idF m h.t h.l)) B b vw w) := by
  have HST := hid (TkAt.start 72 26 2 m h h0 hm)
  have HOLD := hid hm.hold
  have HID := hid (fun (x : World) => Id_any m h.t h.l x)
  have HWH := hid (fun (x : World) (hb : Mem x B b vw s) => mwhole_yes m x B b vw s hb hz)
  have hip := idF_pos hmay
  have hib : (idF m h.t h.l == 0) = false := by simp; omega
  have HND := hid (fun (x : World) => mnode_any m h.l h.x 1 x)
  have hin : s.eAt (nodeF m h.l h.x 1) = 0 := MS.eAt_in hpos (by rcases nodeF_range m h.l h.x 1 (by decide) (by decide) with h | h <;> omega)
  have HMO := hid (fun (x : World) (hb : Mem x B b vw s) => Store_at (nodeF m h.l h.x 1) (idF m h.t h.l) x B b vw s hb)
  simp only [hin] at HMO
  clear hin
  clear hmay hip hm hz
  generalize idF m h.t h.l = i at *
  generalize nodeF m h.l h.x 1 = p at *
  obtain ⟨s1, ml, mt, c, d⟩ := m
  obtain ⟨ht, hl, hs, hr, hx⟩ := h
  simp only at hsv
  subst hsv
  show Calls _ _ #[.agg #[.int .i64 s1, .int .i64 ml, .int .i64 mt, .int .i64 c, .int .i64 d], _, .agg #[.int .i64 ht, .int .i64 hl, .int .i64 4, .bool hr, .int .i64 hx]] _ _
  go_enter Try.func39, Try.ntmps39
  go_upto_region 1 with fail
  refine wp_rename _ HST.out ?_
  intro W hk
  have HK := hid hk
  obtain ⟨m0, m1, m2, m3, m4, _⟩ := hk.three.map.facts
  obtain ⟨d0, d1, d2, d3, d4, df⟩ := hk.three.box.facts
  obtain ⟨o0, o1, o2, o3, o4, of⟩ := hk.three.out.facts
  clear hk HST
  go_wp2_with (first | (go_at_call 54; (with_reducible refine (HID.out _).mono ?_); rintro e w1 ⟨rfl, hb1⟩; have HK := hid (HK.out.below hb1); clear hb1; clear m0 m1 m2 m3 m4 d0 d1 d2 d3 d4 df o0 o1 o2 o3 o4 of; obtain ⟨m0, m1, m2, m3, m4, _⟩ := HK.out.three.map.facts; obtain ⟨d0, d1, d2, d3, d4, df⟩ := HK.out.three.box.facts; obtain ⟨o0, o1, o2, o3, o4, of⟩ := HK.out.three.out.facts) | (go_at_call 55; (with_reducible refine (HWH.out _ HK.out.mem).mono ?_); rintro e w2 ⟨rfl, hb2⟩; have HK := hid (HK.out.below hb2); clear hb2; clear m0 m1 m2 m3 m4 d0 d1 d2 d3 d4 df o0 o1 o2 o3 o4 of; obtain ⟨m0, m1, m2, m3, m4, _⟩ := HK.out.three.map.facts; obtain ⟨d0, d1, d2, d3, d4, df⟩ := HK.out.three.box.facts; obtain ⟨o0, o1, o2, o3, o4, of⟩ := HK.out.three.out.facts) | (go_at_call 56; (with_reducible refine (HND.out _).mono ?_); rintro e w3 ⟨rfl, hb3⟩; have HK := hid (HK.out.below hb3); clear hb3; clear m0 m1 m2 m3 m4 d0 d1 d2 d3 d4 df o0 o1 o2 o3 o4 of; obtain ⟨m0, m1, m2, m3, m4, _⟩ := HK.out.three.map.facts; obtain ⟨d0, d1, d2, d3, d4, df⟩ := HK.out.three.box.facts; obtain ⟨o0, o1, o2, o3, o4, of⟩ := HK.out.three.out.facts) | (go_at_call 59; (with_reducible refine (HMO.out _ HK.out.mem).mono ?_); rintro e w4 ⟨rfl, hm4, hw4⟩; have HK := hid (HK.out.next hm4 hw4 HOLD.out); clear hm4 hw4; clear m0 m1 m2 m3 m4 d0 d1 d2 d3 d4 df o0 o1 o2 o3 o4 of; obtain ⟨m0, m1, m2, m3, m4, _⟩ := HK.out.three.map.facts; obtain ⟨d0, d1, d2, d3, d4, df⟩ := HK.out.three.box.facts; obtain ⟨o0, o1, o2, o3, o4, of⟩ := HK.out.three.out.facts))
  refine bodyPost_ret (v := (HD.mk ht hl 5 hr 0).v) (by simp [results, Try.results39, go_sem, o0, o1, o2, o3, o4, of]) rfl ?_
  exact ((HK.out.setS HOLD.out 5).setX HOLD.out 0).done HOLD.out _ _ rfl rfl rfl _ _ _ _ _

set_option maxRecDepth 100000 in
set_option maxHeartbeats 4000000 in
theorem mTake_4n (m : PM) (h : HD) (w : World) (B b : Nat) (vw : Value) (s : MS) (hm : Mem w B b vw s) (hz : m.size ≤ (s.zs.length : Int)) (hmay : mayH m h) (hsv : h.s = 4) (hnp : ¬ 0 ≤ nodeF m h.l h.x 1) :
    Calls Try.prog 39 #[m.v, .pointer (some ⟨b, 0, none⟩), h.v] w (HandRet 72 2 h s B b vw w) := by
  have HST := hid (TkAt.start 72 26 2 m h h0 hm)
  have HOLD := hid hm.hold
  have HID := hid (fun (x : World) => Id_any m h.t h.l x)
  have HWH := hid (fun (x : World) (hb : Mem x B b vw s) => mwhole_yes m x B b vw s hb hz)
  have hip := idF_pos hmay
  have hib : (idF m h.t h.l == 0) = false := by simp; omega
  have HND := hid (fun (x : World) => mnode_any m h.l h.x 1 x)
  have hneg : nodeF m h.l h.x 1 = -1 := by rcases nodeF_range m h.l h.x 1 (by decide) (by decide) with h | h <;> omega
  have hout := MS.eAt_out (s := s)
  simp only [hneg] at HND
  have HMO := hid (fun (x : World) (hb : Mem x B b vw s) => Store_at (-1) (idF m h.t h.l) x B b vw s hb)
  simp only [hout, MS.stored_out] at HMO
  clear hout hneg hnp
  clear hmay hip hm hz
  generalize idF m h.t h.l = i at *
  obtain ⟨s1, ml, mt, c, d⟩ := m
  obtain ⟨ht, hl, hs, hr, hx⟩ := h
  simp only at hsv
  subst hsv
  show Calls _ _ #[.agg #[.int .i64 s1, .int .i64 ml, .int .i64 mt, .int .i64 c, .int .i64 d], _, .agg #[.int .i64 ht, .int .i64 hl, .int .i64 4, .bool hr, .int .i64 hx]] _ _
  go_enter Try.func39, Try.ntmps39
  go_upto_region 1 with fail
  refine wp_rename _ HST.out ?_
  intro W hk
  have HK := hid hk
  obtain ⟨m0, m1, m2, m3, m4, _⟩ := hk.three.map.facts
  obtain ⟨d0, d1, d2, d3, d4, df⟩ := hk.three.box.facts
  obtain ⟨o0, o1, o2, o3, o4, of⟩ := hk.three.out.facts
  clear hk HST
  go_wp2_with (first | (go_at_call 54; (with_reducible refine (HID.out _).mono ?_); rintro e w1 ⟨rfl, hb1⟩; have HK := hid (HK.out.below hb1); clear hb1; clear m0 m1 m2 m3 m4 d0 d1 d2 d3 d4 df o0 o1 o2 o3 o4 of; obtain ⟨m0, m1, m2, m3, m4, _⟩ := HK.out.three.map.facts; obtain ⟨d0, d1, d2, d3, d4, df⟩ := HK.out.three.box.facts; obtain ⟨o0, o1, o2, o3, o4, of⟩ := HK.out.three.out.facts) | (go_at_call 55; (with_reducible refine (HWH.out _ HK.out.mem).mono ?_); rintro e w2 ⟨rfl, hb2⟩; have HK := hid (HK.out.below hb2); clear hb2; clear m0 m1 m2 m3 m4 d0 d1 d2 d3 d4 df o0 o1 o2 o3 o4 of; obtain ⟨m0, m1, m2, m3, m4, _⟩ := HK.out.three.map.facts; obtain ⟨d0, d1, d2, d3, d4, df⟩ := HK.out.three.box.facts; obtain ⟨o0, o1, o2, o3, o4, of⟩ := HK.out.three.out.facts) | (go_at_call 56; (with_reducible refine (HND.out _).mono ?_); rintro e w3 ⟨rfl, hb3⟩; have HK := hid (HK.out.below hb3); clear hb3; clear m0 m1 m2 m3 m4 d0 d1 d2 d3 d4 df o0 o1 o2 o3 o4 of; obtain ⟨m0, m1, m2, m3, m4, _⟩ := HK.out.three.map.facts; obtain ⟨d0, d1, d2, d3, d4, df⟩ := HK.out.three.box.facts; obtain ⟨o0, o1, o2, o3, o4, of⟩ := HK.out.three.out.facts) | (go_at_call 59; (with_reducible refine (HMO.out _ HK.out.mem).mono ?_); rintro e w4 ⟨rfl, hm4, hw4⟩; have HK := hid (HK.out.next hm4 hw4 HOLD.out); clear hm4 hw4; clear m0 m1 m2 m3 m4 d0 d1 d2 d3 d4 df o0 o1 o2 o3 o4 of; obtain ⟨m0, m1, m2, m3, m4, _⟩ := HK.out.three.map.facts; obtain ⟨d0, d1, d2, d3, d4, df⟩ := HK.out.three.box.facts; obtain ⟨o0, o1, o2, o3, o4, of⟩ := HK.out.three.out.facts))
  refine bodyPost_ret (v := (HD.mk ht hl 4 hr hx).v) (by simp [results, Try.results39, go_sem, o0, o1, o2, o3, o4, of]) rfl ?_
  exact HK.out.done HOLD.out _ _ rfl rfl rfl _ _ _ _ _

set_option maxRecDepth 100000 in
set_option maxHeartbeats 4000000 in
theorem mTake_5 (m : PM) (h : HD) (w : World) (B b : Nat) (vw : Value) (s : MS) (hm : Mem w B b vw s) (hz : m.size ≤ (s.zs.length : Int)) (hmay : mayH m h) (hsv : h.s = 5) (hy : s.vAt (m.node h.t h.l 0) = 0) :
    Calls Try.prog 39 #[m.v, .pointer (some ⟨b, 0, none⟩), h.v] w (HandRet 72 2 ⟨h.t, h.l, 9, h.rd, h.x⟩ (s.loaded (m.node h.t h.l 0)) B b vw w) := by
  have HST := hid (TkAt.start 72 26 2 m h h0 hm)
  have HOLD := hid hm.hold
  have HID := hid (fun (x : World) => Id_any m h.t h.l x)
  have HWH := hid (fun (x : World) (hb : Mem x B b vw s) => mwhole_yes m x B b vw s hb hz)
  have hip := idF_pos hmay
  have hib : (idF m h.t h.l == 0) = false := by simp; omega
  have HND := hid (fun (x : World) => (show Calls Try.prog 56 #[m.v, .int .i64 h.l, .int .i64 (idF m h.t h.l), .int .i64 0] x fun e w' => e = .returned (.int .i64 (m.node h.t h.l 0)) ∧ Below x.heap.size x w' from by have := mnode_any m h.l (idF m h.t h.l) 0 x; rwa [nodeF_id hmay] at this))
  have HMO := hid (fun (x : World) (hb : Mem x B b vw s) => Load_at (m.node h.t h.l 0) x B b vw s hb)
  simp only [hy] at HMO
  clear hy
  clear hmay hip hm hz
  generalize idF m h.t h.l = i at *
  generalize m.node h.t h.l 0 = p at *
  generalize s.eAt p = ee at *
  obtain ⟨s1, ml, mt, c, d⟩ := m
  obtain ⟨ht, hl, hs, hr, hx⟩ := h
  simp only at hsv
  subst hsv
  show Calls _ _ #[.agg #[.int .i64 s1, .int .i64 ml, .int .i64 mt, .int .i64 c, .int .i64 d], _, .agg #[.int .i64 ht, .int .i64 hl, .int .i64 5, .bool hr, .int .i64 hx]] _ _
  go_enter Try.func39, Try.ntmps39
  go_upto_region 1 with fail
  refine wp_rename _ HST.out ?_
  intro W hk
  have HK := hid hk
  obtain ⟨m0, m1, m2, m3, m4, _⟩ := hk.three.map.facts
  obtain ⟨d0, d1, d2, d3, d4, df⟩ := hk.three.box.facts
  obtain ⟨o0, o1, o2, o3, o4, of⟩ := hk.three.out.facts
  clear hk HST
  go_wp2_with (first | (go_at_call 54; (with_reducible refine (HID.out _).mono ?_); rintro e w1 ⟨rfl, hb1⟩; have HK := hid (HK.out.below hb1); clear hb1; clear m0 m1 m2 m3 m4 d0 d1 d2 d3 d4 df o0 o1 o2 o3 o4 of; obtain ⟨m0, m1, m2, m3, m4, _⟩ := HK.out.three.map.facts; obtain ⟨d0, d1, d2, d3, d4, df⟩ := HK.out.three.box.facts; obtain ⟨o0, o1, o2, o3, o4, of⟩ := HK.out.three.out.facts) | (go_at_call 55; (with_reducible refine (HWH.out _ HK.out.mem).mono ?_); rintro e w2 ⟨rfl, hb2⟩; have HK := hid (HK.out.below hb2); clear hb2; clear m0 m1 m2 m3 m4 d0 d1 d2 d3 d4 df o0 o1 o2 o3 o4 of; obtain ⟨m0, m1, m2, m3, m4, _⟩ := HK.out.three.map.facts; obtain ⟨d0, d1, d2, d3, d4, df⟩ := HK.out.three.box.facts; obtain ⟨o0, o1, o2, o3, o4, of⟩ := HK.out.three.out.facts) | (go_at_call 56; (with_reducible refine (HND.out _).mono ?_); rintro e w3 ⟨rfl, hb3⟩; have HK := hid (HK.out.below hb3); clear hb3; clear m0 m1 m2 m3 m4 d0 d1 d2 d3 d4 df o0 o1 o2 o3 o4 of; obtain ⟨m0, m1, m2, m3, m4, _⟩ := HK.out.three.map.facts; obtain ⟨d0, d1, d2, d3, d4, df⟩ := HK.out.three.box.facts; obtain ⟨o0, o1, o2, o3, o4, of⟩ := HK.out.three.out.facts) | (go_at_call 40; (with_reducible refine (HMO.out _ HK.out.mem).mono ?_); rintro e w4 ⟨rfl, hm4, hw4⟩; have HK := hid (HK.out.next hm4 hw4 HOLD.out); clear hm4 hw4; clear m0 m1 m2 m3 m4 d0 d1 d2 d3 d4 df o0 o1 o2 o3 o4 of; obtain ⟨m0, m1, m2, m3, m4, _⟩ := HK.out.three.map.facts; obtain ⟨d0, d1, d2, d3, d4, df⟩ := HK.out.three.box.facts; obtain ⟨o0, o1, o2, o3, o4, of⟩ := HK.out.three.out.facts))
  refine bodyPost_ret (v := (HD.mk ht hl 9 hr hx).v) (by simp [results, Try.results39, go_sem, o0, o1, o2, o3, o4, of]) rfl ?_
  exact (HK.out.setS HOLD.out 9).done HOLD.out _ _ rfl rfl rfl _ _ _ _ _

set_option maxRecDepth 100000 in
set_option maxHeartbeats 4000000 in
theorem mTake_5n (m : PM) (h : HD) (w : World) (B b : Nat) (vw : Value) (s : MS) (hm : Mem w B b vw s) (hz : m.size ≤ (s.zs.length : Int)) (hmay : mayH m h) (hsv : h.s = 5) (hy : ¬ s.vAt (m.node h.t h.l 0) = 0) :
    Calls Try.prog 39 #[m.v, .pointer (some ⟨b, 0, none⟩), h.v] w (HandRet 72 2 h (s.loaded (m.node h.t h.l 0)) B b vw w) := by
  have HST := hid (TkAt.start 72 26 2 m h h0 hm)
  have HOLD := hid hm.hold
  have HID := hid (fun (x : World) => Id_any m h.t h.l x)
  have HWH := hid (fun (x : World) (hb : Mem x B b vw s) => mwhole_yes m x B b vw s hb hz)
  have hip := idF_pos hmay
  have hib : (idF m h.t h.l == 0) = false := by simp; omega
  have HND := hid (fun (x : World) => (show Calls Try.prog 56 #[m.v, .int .i64 h.l, .int .i64 (idF m h.t h.l), .int .i64 0] x fun e w' => e = .returned (.int .i64 (m.node h.t h.l 0)) ∧ Below x.heap.size x w' from by have := mnode_any m h.l (idF m h.t h.l) 0 x; rwa [nodeF_id hmay] at this))
  have HMO := hid (fun (x : World) (hb : Mem x B b vw s) => Load_at (m.node h.t h.l 0) x B b vw s hb)
  clear hmay hip hm hz
  generalize idF m h.t h.l = i at *
  generalize m.node h.t h.l 0 = p at *
  generalize s.eAt p = ee at *
  generalize s.vAt p = y at *
  obtain ⟨s1, ml, mt, c, d⟩ := m
  obtain ⟨ht, hl, hs, hr, hx⟩ := h
  simp only at hsv
  subst hsv
  show Calls _ _ #[.agg #[.int .i64 s1, .int .i64 ml, .int .i64 mt, .int .i64 c, .int .i64 d], _, .agg #[.int .i64 ht, .int .i64 hl, .int .i64 5, .bool hr, .int .i64 hx]] _ _
  go_enter Try.func39, Try.ntmps39
  go_upto_region 1 with fail
  refine wp_rename _ HST.out ?_
  intro W hk
  have HK := hid hk
  obtain ⟨m0, m1, m2, m3, m4, _⟩ := hk.three.map.facts
  obtain ⟨d0, d1, d2, d3, d4, df⟩ := hk.three.box.facts
  obtain ⟨o0, o1, o2, o3, o4, of⟩ := hk.three.out.facts
  clear hk HST
  go_wp2_with (first | (go_at_call 54; (with_reducible refine (HID.out _).mono ?_); rintro e w1 ⟨rfl, hb1⟩; have HK := hid (HK.out.below hb1); clear hb1; clear m0 m1 m2 m3 m4 d0 d1 d2 d3 d4 df o0 o1 o2 o3 o4 of; obtain ⟨m0, m1, m2, m3, m4, _⟩ := HK.out.three.map.facts; obtain ⟨d0, d1, d2, d3, d4, df⟩ := HK.out.three.box.facts; obtain ⟨o0, o1, o2, o3, o4, of⟩ := HK.out.three.out.facts) | (go_at_call 55; (with_reducible refine (HWH.out _ HK.out.mem).mono ?_); rintro e w2 ⟨rfl, hb2⟩; have HK := hid (HK.out.below hb2); clear hb2; clear m0 m1 m2 m3 m4 d0 d1 d2 d3 d4 df o0 o1 o2 o3 o4 of; obtain ⟨m0, m1, m2, m3, m4, _⟩ := HK.out.three.map.facts; obtain ⟨d0, d1, d2, d3, d4, df⟩ := HK.out.three.box.facts; obtain ⟨o0, o1, o2, o3, o4, of⟩ := HK.out.three.out.facts) | (go_at_call 56; (with_reducible refine (HND.out _).mono ?_); rintro e w3 ⟨rfl, hb3⟩; have HK := hid (HK.out.below hb3); clear hb3; clear m0 m1 m2 m3 m4 d0 d1 d2 d3 d4 df o0 o1 o2 o3 o4 of; obtain ⟨m0, m1, m2, m3, m4, _⟩ := HK.out.three.map.facts; obtain ⟨d0, d1, d2, d3, d4, df⟩ := HK.out.three.box.facts; obtain ⟨o0, o1, o2, o3, o4, of⟩ := HK.out.three.out.facts) | (go_at_call 40; (with_reducible refine (HMO.out _ HK.out.mem).mono ?_); rintro e w4 ⟨rfl, hm4, hw4⟩; have HK := hid (HK.out.next hm4 hw4 HOLD.out); clear hm4 hw4; clear m0 m1 m2 m3 m4 d0 d1 d2 d3 d4 df o0 o1 o2 o3 o4 of; obtain ⟨m0, m1, m2, m3, m4, _⟩ := HK.out.three.map.facts; obtain ⟨d0, d1, d2, d3, d4, df⟩ := HK.out.three.box.facts; obtain ⟨o0, o1, o2, o3, o4, of⟩ := HK.out.three.out.facts))
  refine bodyPost_ret (v := (HD.mk ht hl 5 hr hx).v) (by simp [results, Try.results39, go_sem, o0, o1, o2, o3, o4, of]) rfl ?_
  exact HK.out.done HOLD.out _ _ rfl rfl rfl _ _ _ _ _

set_option maxRecDepth 100000 in
set_option maxHeartbeats 4000000 in
theorem mTake_q (m : PM) (h : HD) (w : World) (B b : Nat) (vw : Value) (s : MS) (hm : Mem w B b vw s) (hz : m.size ≤ (s.zs.length : Int)) (hmay : mayH m h) (q0 : ¬ h.s = 0) (q1 : ¬ h.s = 1) (q2 : ¬ h.s = 2) (q3 : ¬ h.s = 3) (q4 : ¬ h.s = 4) (q5 : ¬ h.s = 5) :
    Calls Try.prog 39 #[m.v, .pointer (some ⟨b, 0, none⟩), h.v] w (HandRet 72 2 h s B b vw w) := by
  have HST := hid (TkAt.start 72 26 2 m h h0 hm)
  have HOLD := hid hm.hold
  have HID := hid (fun (x : World) => Id_any m h.t h.l x)
  have HWH := hid (fun (x : World) (hb : Mem x B b vw s) => mwhole_yes m x B b vw s hb hz)
  have hip := idF_pos hmay
  have hib : (idF m h.t h.l == 0) = false := by simp; omega
  clear hmay hip hm hz
  generalize idF m h.t h.l = i at *
  obtain ⟨s1, ml, mt, c, d⟩ := m
  obtain ⟨ht, hl, hs, hr, hx⟩ := h
  simp only at q0 q1 q2 q3 q4 q5
  show Calls _ _ #[.agg #[.int .i64 s1, .int .i64 ml, .int .i64 mt, .int .i64 c, .int .i64 d], _, .agg #[.int .i64 ht, .int .i64 hl, .int .i64 hs, .bool hr, .int .i64 hx]] _ _
  go_enter Try.func39, Try.ntmps39
  go_upto_region 1 with fail
  refine wp_rename _ HST.out ?_
  intro W hk
  have HK := hid hk
  obtain ⟨m0, m1, m2, m3, m4, _⟩ := hk.three.map.facts
  obtain ⟨d0, d1, d2, d3, d4, df⟩ := hk.three.box.facts
  obtain ⟨o0, o1, o2, o3, o4, of⟩ := hk.three.out.facts
  clear hk HST
  go_wp2_with (first | (go_at_call 54; (with_reducible refine (HID.out _).mono ?_); rintro e w1 ⟨rfl, hb1⟩; have HK := hid (HK.out.below hb1); clear hb1; clear m0 m1 m2 m3 m4 d0 d1 d2 d3 d4 df o0 o1 o2 o3 o4 of; obtain ⟨m0, m1, m2, m3, m4, _⟩ := HK.out.three.map.facts; obtain ⟨d0, d1, d2, d3, d4, df⟩ := HK.out.three.box.facts; obtain ⟨o0, o1, o2, o3, o4, of⟩ := HK.out.three.out.facts) | (go_at_call 55; (with_reducible refine (HWH.out _ HK.out.mem).mono ?_); rintro e w2 ⟨rfl, hb2⟩; have HK := hid (HK.out.below hb2); clear hb2; clear m0 m1 m2 m3 m4 d0 d1 d2 d3 d4 df o0 o1 o2 o3 o4 of; obtain ⟨m0, m1, m2, m3, m4, _⟩ := HK.out.three.map.facts; obtain ⟨d0, d1, d2, d3, d4, df⟩ := HK.out.three.box.facts; obtain ⟨o0, o1, o2, o3, o4, of⟩ := HK.out.three.out.facts))
  refine bodyPost_ret (v := (HD.mk ht hl hs hr hx).v) (by simp [results, Try.results39, go_sem, o0, o1, o2, o3, o4, of]) rfl ?_
  exact HK.out.done HOLD.out _ _ rfl rfl rfl _ _ _ _ _

theorem mTake_any (m : PM) (h : HD) (w : World) (B b : Nat) (vw : Value) (s : MS) (hm : Mem w B b vw s) (hz : m.size ≤ (s.zs.length : Int)) :
    Calls Try.prog 39 #[m.v, .pointer (some ⟨b, 0, none⟩), h.v] w (HandRet 72 2 (mcTake m s h).1 (mcTake m s h).2 B b vw w) := by
  unfold mcTake
  by_cases hmay : mayH m h
  · rw [if_pos hmay]
    by_cases q0 : h.s = 0
    · rw [if_pos q0]; exact mTake_0 m h w B b vw s hm hz hmay q0
    rw [if_neg q0]
    by_cases q1 : h.s = 1
    · rw [if_pos q1]; exact mTake_1 m h w B b vw s hm hz hmay q1
    rw [if_neg q1]
    by_cases q2 : h.s = 2
    · rw [if_pos q2]; exact mTake_2 m h w B b vw s hm hz hmay q2
    rw [if_neg q2]
    by_cases q3 : h.s = 3
    · rw [if_pos q3]; exact mTake_3 m h w B b vw s hm hz hmay q3
    rw [if_neg q3]
    by_cases q4 : h.s = 4
    · rw [if_pos q4]
      by_cases c : 0 ≤ nodeF m h.l h.x 1
      · rw [if_pos c]; exact mTake_4 m h w B b vw s hm hz hmay q4 c
      · rw [if_neg c]; exact mTake_4n m h w B b vw s hm hz hmay q4 c
    rw [if_neg q4]
    by_cases q5 : h.s = 5
    · rw [if_pos q5]
      by_cases c : s.vAt (m.node h.t h.l 0) = 0
      · rw [if_pos c]; exact mTake_5 m h w B b vw s hm hz hmay q5 c
      · rw [if_neg c]; exact mTake_5n m h w B b vw s hm hz hmay q5 c
    rw [if_neg q5]
    exact mTake_q m h w B b vw s hm hz hmay q0 q1 q2 q3 q4 q5
  · rw [if_neg hmay]
    exact mTake_no m h w B b vw s hm hz hmay

end Go.Proofs.Ytmcmajndcbobpaa
