/-
  THE CONTRACT of mcs.Drop.
-/
import Derived.Test.YtmcmajndcbobpaaMcsQ
namespace Go.Proofs.Ytmcmajndcbobpaa
open Go.RowKit
attribute [local go_sem] Later.cell Later.frozen

set_option maxRecDepth 100000 in
set_option maxHeartbeats 4000000 in
theorem mDrop_no (m : PM) (h : HD) (w : World) (B b : Nat) (vw : Value) (s : MS) (hm : Mem w B b vw s) (hz : m.size ≤ (s.zs.length : Int)) (hmay : ¬ mayH m h) :
    Calls Try.prog 33 #[m.v, .pointer (some ⟨b, 0, none⟩), h.v] w (HandRet 72 2 h s B b vw w) := by
  have HST := hid (TkAt.start 72 26 2 m h h0 hm)
  have HOLD := hid hm.hold
  have HID := hid (fun (x : World) => Id_any m h.t h.l x)
  have HWH := hid (fun (x : World) (hb : Mem x B b vw s) => mwhole_yes m x B b vw s hb hz)
  have hi0 := idF_not hmay
  simp only [hi0] at HID
  clear hmay hm hz hi0 HWH
  obtain ⟨s1, ml, mt, c, d⟩ := m
  obtain ⟨ht, hl, hs, hr, hx⟩ := h
  show Calls _ _ #[.agg #[.int .i64 s1, .int .i64 ml, .int .i64 mt, .int .i64 c, .int .i64 d], _, .agg #[.int .i64 ht, .int .i64 hl, .int .i64 hs, .bool hr, .int .i64 hx]] _ _
  go_enter Try.func33, Try.ntmps33
  go_upto_region 1 with fail
  refine wp_rename _ HST.out ?_
  intro W hk
  have HK := hid hk
  obtain ⟨m0, m1, m2, m3, m4, _⟩ := hk.three.map.facts
  obtain ⟨d0, d1, d2, d3, d4, df⟩ := hk.three.box.facts
  obtain ⟨o0, o1, o2, o3, o4, of⟩ := hk.three.out.facts
  clear hk HST
  go_wp2_with ((go_at_call 54; (with_reducible refine (HID.out _).mono ?_); rintro e w1 ⟨rfl, hb1⟩; have HK := hid (HK.out.below hb1); clear hb1; clear m0 m1 m2 m3 m4 d0 d1 d2 d3 d4 df o0 o1 o2 o3 o4 of; obtain ⟨m0, m1, m2, m3, m4, _⟩ := HK.out.three.map.facts; obtain ⟨d0, d1, d2, d3, d4, df⟩ := HK.out.three.box.facts; obtain ⟨o0, o1, o2, o3, o4, of⟩ := HK.out.three.out.facts))
  refine bodyPost_ret (v := (HD.mk ht hl hs hr hx).v) (by simp [results, Try.results33, go_sem, o0, o1, o2, o3, o4, of]) rfl ?_
  exact HK.out.done HOLD.out _ _ rfl rfl rfl _ _ _ _ _

set_option maxRecDepth 100000 in
set_option maxHeartbeats 4000000 in
theorem mDrop_9 (m : PM) (h : HD) (w : World) (B b : Nat) (vw : Value) (s : MS) (hm : Mem w B b vw s) (hz : m.size ≤ (s.zs.length : Int)) (hmay : mayH m h) (hsv : h.s = 9) (hy : s.vAt (m.node h.t h.l 1) = 0) :
    Calls Try.prog 33 #[m.v, .pointer (some ⟨b, 0, none⟩), h.v] w (HandRet 72 2 ⟨h.t, h.l, 7, h.rd, h.x⟩ (s.loaded (m.node h.t h.l 1)) B b vw w) := by
  have HST := hid (TkAt.start 72 26 2 m h h0 hm)
  have HOLD := hid hm.hold
  have HID := hid (fun (x : World) => Id_any m h.t h.l x)
  have HWH := hid (fun (x : World) (hb : Mem x B b vw s) => mwhole_yes m x B b vw s hb hz)
  have hip := idF_pos hmay
  have hib : (idF m h.t h.l == 0) = false := by simp; omega
  have HND := hid (fun (x : World) => (show Calls Try.prog 56 #[m.v, .int .i64 h.l, .int .i64 (idF m h.t h.l), .int .i64 1] x fun e w' => e = .returned (.int .i64 (m.node h.t h.l 1)) ∧ Below x.heap.size x w' from by have := mnode_any m h.l (idF m h.t h.l) 1 x; rwa [nodeF_id hmay] at this))
  have HMO := hid (fun (x : World) (hb : Mem x B b vw s) => Load_at (m.node h.t h.l 1) x B b vw s hb)
  simp only [hy] at HMO
  clear hy
  clear hmay hip hm hz
  generalize idF m h.t h.l = i at *
  generalize m.node h.t h.l 1 = p at *
  generalize s.eAt p = ee at *
  obtain ⟨s1, ml, mt, c, d⟩ := m
  obtain ⟨ht, hl, hs, hr, hx⟩ := h
  simp only at hsv
  subst hsv
  show Calls _ _ #[.agg #[.int .i64 s1, .int .i64 ml, .int .i64 mt, .int .i64 c, .int .i64 d], _, .agg #[.int .i64 ht, .int .i64 hl, .int .i64 9, .bool hr, .int .i64 hx]] _ _
  go_enter Try.func33, Try.ntmps33
  go_upto_region 1 with fail
  refine wp_rename _ HST.out ?_
  intro W hk
  have HK := hid hk
  obtain ⟨m0, m1, m2, m3, m4, _⟩ := hk.three.map.facts
  obtain ⟨d0, d1, d2, d3, d4, df⟩ := hk.three.box.facts
  obtain ⟨o0, o1, o2, o3, o4, of⟩ := hk.three.out.facts
  clear hk HST
  go_upto_region 10 with (first | (go_at_call 54; (with_reducible refine (HID.out _).mono ?_); rintro e w1 ⟨rfl, hb1⟩; have HK := hid (HK.out.below hb1); clear hb1; clear m0 m1 m2 m3 m4 d0 d1 d2 d3 d4 df o0 o1 o2 o3 o4 of; obtain ⟨m0, m1, m2, m3, m4, _⟩ := HK.out.three.map.facts; obtain ⟨d0, d1, d2, d3, d4, df⟩ := HK.out.three.box.facts; obtain ⟨o0, o1, o2, o3, o4, of⟩ := HK.out.three.out.facts) | (go_at_call 55; (with_reducible refine (HWH.out _ HK.out.mem).mono ?_); rintro e w2 ⟨rfl, hb2⟩; have HK := hid (HK.out.below hb2); clear hb2; clear m0 m1 m2 m3 m4 d0 d1 d2 d3 d4 df o0 o1 o2 o3 o4 of; obtain ⟨m0, m1, m2, m3, m4, _⟩ := HK.out.three.map.facts; obtain ⟨d0, d1, d2, d3, d4, df⟩ := HK.out.three.box.facts; obtain ⟨o0, o1, o2, o3, o4, of⟩ := HK.out.three.out.facts))
  refine wp_rename _ (HK.out.setS HOLD.out 7) ?_
  clear m0 m1 m2 m3 m4 d0 d1 d2 d3 d4 df o0 o1 o2 o3 o4 of
  intro W9 hk9
  have HK := hid hk9
  obtain ⟨m0, m1, m2, m3, m4, _⟩ := hk9.three.map.facts
  obtain ⟨d0, d1, d2, d3, d4, df⟩ := hk9.three.box.facts
  obtain ⟨o0, o1, o2, o3, o4, of⟩ := hk9.three.out.facts
  clear hk9
  go_wp2_with (first | (go_at_call 56; (with_reducible refine (HND.out _).mono ?_); rintro e w3 ⟨rfl, hb3⟩; have HK := hid (HK.out.below hb3); clear hb3; clear m0 m1 m2 m3 m4 d0 d1 d2 d3 d4 df o0 o1 o2 o3 o4 of; obtain ⟨m0, m1, m2, m3, m4, _⟩ := HK.out.three.map.facts; obtain ⟨d0, d1, d2, d3, d4, df⟩ := HK.out.three.box.facts; obtain ⟨o0, o1, o2, o3, o4, of⟩ := HK.out.three.out.facts) | (go_at_call 40; (with_reducible refine (HMO.out _ HK.out.mem).mono ?_); rintro e w4 ⟨rfl, hm4, hw4⟩; have HK := hid (HK.out.next hm4 hw4 HOLD.out); clear hm4 hw4; clear m0 m1 m2 m3 m4 d0 d1 d2 d3 d4 df o0 o1 o2 o3 o4 of; obtain ⟨m0, m1, m2, m3, m4, _⟩ := HK.out.three.map.facts; obtain ⟨d0, d1, d2, d3, d4, df⟩ := HK.out.three.box.facts; obtain ⟨o0, o1, o2, o3, o4, of⟩ := HK.out.three.out.facts))
  refine bodyPost_ret (v := (HD.mk ht hl 7 hr hx).v) (by simp [results, Try.results33, go_sem, o0, o1, o2, o3, o4, of]) rfl ?_
  exact HK.out.done HOLD.out _ _ rfl rfl rfl _ _ _ _ _

set_option maxRecDepth 100000 in
set_option maxHeartbeats 4000000 in
theorem mDrop_9n (m : PM) (h : HD) (w : World) (B b : Nat) (vw : Value) (s : MS) (hm : Mem w B b vw s) (hz : m.size ≤ (s.zs.length : Int)) (hmay : mayH m h) (hsv : h.s = 9) (hy : ¬ s.vAt (m.node h.t h.l 1) = 0) :
    Calls Try.prog 33 #[m.v, .pointer (some ⟨b, 0, none⟩), h.v] w (HandRet 72 2 ⟨h.t, h.l, 8, h.rd, s.vAt (m.node h.t h.l 1)⟩ (s.loaded (m.node h.t h.l 1)) B b vw w) := by
  have HST := hid (TkAt.start 72 26 2 m h h0 hm)
  have HOLD := hid hm.hold
  have HID := hid (fun (x : World) => Id_any m h.t h.l x)
  have HWH := hid (fun (x : World) (hb : Mem x B b vw s) => mwhole_yes m x B b vw s hb hz)
  have hip := idF_pos hmay
  have hib : (idF m h.t h.l == 0) = false := by simp; omega
  have HND := hid (fun (x : World) => (show Calls Try.prog 56 #[m.v, .int .i64 h.l, .int .i64 (idF m h.t h.l), .int .i64 1] x fun e w' => e = .returned (.int .i64 (m.node h.t h.l 1)) ∧ Below x.heap.size x w' from by have := mnode_any m h.l (idF m h.t h.l) 1 x; rwa [nodeF_id hmay] at this))
  have HMO := hid (fun (x : World) (hb : Mem x B b vw s) => Load_at (m.node h.t h.l 1) x B b vw s hb)
  clear hmay hip hm hz
  generalize idF m h.t h.l = i at *
  generalize m.node h.t h.l 1 = p at *
  generalize s.eAt p = ee at *
  generalize s.vAt p = y at *
  obtain ⟨s1, ml, mt, c, d⟩ := m
  obtain ⟨ht, hl, hs, hr, hx⟩ := h
  simp only at hsv
  subst hsv
  show Calls _ _ #[.agg #[.int .i64 s1, .int .i64 ml, .int .i64 mt, .int .i64 c, .int .i64 d], _, .agg #[.int .i64 ht, .int .i64 hl, .int .i64 9, .bool hr, .int .i64 hx]] _ _
  go_enter Try.func33, Try.ntmps33
  go_upto_region 1 with fail
  refine wp_rename _ HST.out ?_
  intro W hk
  have HK := hid hk
  obtain ⟨m0, m1, m2, m3, m4, _⟩ := hk.three.map.facts
  obtain ⟨d0, d1, d2, d3, d4, df⟩ := hk.three.box.facts
  obtain ⟨o0, o1, o2, o3, o4, of⟩ := hk.three.out.facts
  clear hk HST
  go_upto_region 10 with (first | (go_at_call 54; (with_reducible refine (HID.out _).mono ?_); rintro e w1 ⟨rfl, hb1⟩; have HK := hid (HK.out.below hb1); clear hb1; clear m0 m1 m2 m3 m4 d0 d1 d2 d3 d4 df o0 o1 o2 o3 o4 of; obtain ⟨m0, m1, m2, m3, m4, _⟩ := HK.out.three.map.facts; obtain ⟨d0, d1, d2, d3, d4, df⟩ := HK.out.three.box.facts; obtain ⟨o0, o1, o2, o3, o4, of⟩ := HK.out.three.out.facts) | (go_at_call 55; (with_reducible refine (HWH.out _ HK.out.mem).mono ?_); rintro e w2 ⟨rfl, hb2⟩; have HK := hid (HK.out.below hb2); clear hb2; clear m0 m1 m2 m3 m4 d0 d1 d2 d3 d4 df o0 o1 o2 o3 o4 of; obtain ⟨m0, m1, m2, m3, m4, _⟩ := HK.out.three.map.facts; obtain ⟨d0, d1, d2, d3, d4, df⟩ := HK.out.three.box.facts; obtain ⟨o0, o1, o2, o3, o4, of⟩ := HK.out.three.out.facts))
  refine wp_rename _ (HK.out.setS HOLD.out 7) ?_
  clear m0 m1 m2 m3 m4 d0 d1 d2 d3 d4 df o0 o1 o2 o3 o4 of
  intro W9 hk9
  have HK := hid hk9
  obtain ⟨m0, m1, m2, m3, m4, _⟩ := hk9.three.map.facts
  obtain ⟨d0, d1, d2, d3, d4, df⟩ := hk9.three.box.facts
  obtain ⟨o0, o1, o2, o3, o4, of⟩ := hk9.three.out.facts
  clear hk9
  go_wp2_with (first | (go_at_call 56; (with_reducible refine (HND.out _).mono ?_); rintro e w3 ⟨rfl, hb3⟩; have HK := hid (HK.out.below hb3); clear hb3; clear m0 m1 m2 m3 m4 d0 d1 d2 d3 d4 df o0 o1 o2 o3 o4 of; obtain ⟨m0, m1, m2, m3, m4, _⟩ := HK.out.three.map.facts; obtain ⟨d0, d1, d2, d3, d4, df⟩ := HK.out.three.box.facts; obtain ⟨o0, o1, o2, o3, o4, of⟩ := HK.out.three.out.facts) | (go_at_call 40; (with_reducible refine (HMO.out _ HK.out.mem).mono ?_); rintro e w4 ⟨rfl, hm4, hw4⟩; have HK := hid (HK.out.next hm4 hw4 HOLD.out); clear hm4 hw4; clear m0 m1 m2 m3 m4 d0 d1 d2 d3 d4 df o0 o1 o2 o3 o4 of; obtain ⟨m0, m1, m2, m3, m4, _⟩ := HK.out.three.map.facts; obtain ⟨d0, d1, d2, d3, d4, df⟩ := HK.out.three.box.facts; obtain ⟨o0, o1, o2, o3, o4, of⟩ := HK.out.three.out.facts))
  refine bodyPost_ret (v := (HD.mk ht hl 8 hr y).v) (by simp [results, Try.results33, go_sem, o0, o1, o2, o3, o4, of]) rfl ?_
  exact (((HK.out.setS HOLD.out 8)).setX HOLD.out y).done HOLD.out _ _ rfl rfl rfl _ _ _ _ _

set_option maxRecDepth 100000 in
set_option maxHeartbeats 4000000 in
theorem mDrop_6 (m : PM) (h : HD) (w : World) (B b : Nat) (vw : Value) (s : MS) (hm : Mem w B b vw s) (hz : m.size ≤ (s.zs.length : Int)) (hmay : mayH m h) (hsv : h.s = 6) (hy : s.vAt (m.node h.t h.l 1) = 0) :
    Calls Try.prog 33 #[m.v, .pointer (some ⟨b, 0, none⟩), h.v] w (HandRet 72 2 h (s.loaded (m.node h.t h.l 1)) B b vw w) := by
  have HST := hid (TkAt.start 72 26 2 m h h0 hm)
  have HOLD := hid hm.hold
  have HID := hid (fun (x : World) => Id_any m h.t h.l x)
  have HWH := hid (fun (x : World) (hb : Mem x B b vw s) => mwhole_yes m x B b vw s hb hz)
  have hip := idF_pos hmay
  have hib : (idF m h.t h.l == 0) = false := by simp; omega
  have HND := hid (fun (x : World) => (show Calls Try.prog 56 #[m.v, .int .i64 h.l, .int .i64 (idF m h.t h.l), .int .i64 1] x fun e w' => e = .returned (.int .i64 (m.node h.t h.l 1)) ∧ Below x.heap.size x w' from by have := mnode_any m h.l (idF m h.t h.l) 1 x; rwa [nodeF_id hmay] at this))
  have HMO := hid (fun (x : World) (hb : Mem x B b vw s) => Load_at (m.node h.t h.l 1) x B b vw s hb)
  simp only [hy] at HMO
  clear hy
  clear hmay hip hm hz
  generalize idF m h.t h.l = i at *
  generalize m.node h.t h.l 1 = p at *
  generalize s.eAt p = ee at *
  obtain ⟨s1, ml, mt, c, d⟩ := m
  obtain ⟨ht, hl, hs, hr, hx⟩ := h
  simp only at hsv
  subst hsv
  show Calls _ _ #[.agg #[.int .i64 s1, .int .i64 ml, .int .i64 mt, .int .i64 c, .int .i64 d], _, .agg #[.int .i64 ht, .int .i64 hl, .int .i64 6, .bool hr, .int .i64 hx]] _ _
  go_enter Try.func33, Try.ntmps33
  go_upto_region 1 with fail
  refine wp_rename _ HST.out ?_
  intro W hk
  have HK := hid hk
  obtain ⟨m0, m1, m2, m3, m4, _⟩ := hk.three.map.facts
  obtain ⟨d0, d1, d2, d3, d4, df⟩ := hk.three.box.facts
  obtain ⟨o0, o1, o2, o3, o4, of⟩ := hk.three.out.facts
  clear hk HST
  go_wp2_with (first | (go_at_call 54; (with_reducible refine (HID.out _).mono ?_); rintro e w1 ⟨rfl, hb1⟩; have HK := hid (HK.out.below hb1); clear hb1; clear m0 m1 m2 m3 m4 d0 d1 d2 d3 d4 df o0 o1 o2 o3 o4 of; obtain ⟨m0, m1, m2, m3, m4, _⟩ := HK.out.three.map.facts; obtain ⟨d0, d1, d2, d3, d4, df⟩ := HK.out.three.box.facts; obtain ⟨o0, o1, o2, o3, o4, of⟩ := HK.out.three.out.facts) | (go_at_call 55; (with_reducible refine (HWH.out _ HK.out.mem).mono ?_); rintro e w2 ⟨rfl, hb2⟩; have HK := hid (HK.out.below hb2); clear hb2; clear m0 m1 m2 m3 m4 d0 d1 d2 d3 d4 df o0 o1 o2 o3 o4 of; obtain ⟨m0, m1, m2, m3, m4, _⟩ := HK.out.three.map.facts; obtain ⟨d0, d1, d2, d3, d4, df⟩ := HK.out.three.box.facts; obtain ⟨o0, o1, o2, o3, o4, of⟩ := HK.out.three.out.facts) | (go_at_call 56; (with_reducible refine (HND.out _).mono ?_); rintro e w3 ⟨rfl, hb3⟩; have HK := hid (HK.out.below hb3); clear hb3; clear m0 m1 m2 m3 m4 d0 d1 d2 d3 d4 df o0 o1 o2 o3 o4 of; obtain ⟨m0, m1, m2, m3, m4, _⟩ := HK.out.three.map.facts; obtain ⟨d0, d1, d2, d3, d4, df⟩ := HK.out.three.box.facts; obtain ⟨o0, o1, o2, o3, o4, of⟩ := HK.out.three.out.facts) | (go_at_call 40; (with_reducible refine (HMO.out _ HK.out.mem).mono ?_); rintro e w4 ⟨rfl, hm4, hw4⟩; have HK := hid (HK.out.next hm4 hw4 HOLD.out); clear hm4 hw4; clear m0 m1 m2 m3 m4 d0 d1 d2 d3 d4 df o0 o1 o2 o3 o4 of; obtain ⟨m0, m1, m2, m3, m4, _⟩ := HK.out.three.map.facts; obtain ⟨d0, d1, d2, d3, d4, df⟩ := HK.out.three.box.facts; obtain ⟨o0, o1, o2, o3, o4, of⟩ := HK.out.three.out.facts))
  refine bodyPost_ret (v := (HD.mk ht hl 6 hr hx).v) (by simp [results, Try.results33, go_sem, o0, o1, o2, o3, o4, of]) rfl ?_
  exact HK.out.done HOLD.out _ _ rfl rfl rfl _ _ _ _ _

set_option maxRecDepth 100000 in
set_option maxHeartbeats 4000000 in
theorem mDrop_6n (m : PM) (h : HD) (w : World) (B b : Nat) (vw : Value) (s : MS) (hm : Mem w B b vw s) (hz : m.size ≤ (s.zs.length : Int)) (hmay : mayH m h) (hsv : h.s = 6) (hy : ¬ s.vAt (m.node h.t h.l 1) = 0) :
    Calls Try.prog 33 #[m.v, .pointer (some ⟨b, 0, none⟩), h.v] w (HandRet 72 2 ⟨h.t, h.l, 8, h.rd, s.vAt (m.node h.t h.l 1)⟩ (s.loaded (m.node h.t h.l 1)) B b vw w) := by
  have HST := hid (TkAt.start 72 26 2 m h h0 hm)
  have HOLD := hid hm.hold
  have HID := hid (fun (x : World) => Id_any m h.t h.l x)
  have HWH := hid (fun (x : World) (hb : Mem x B b vw s) => mwhole_yes m x B b vw s hb hz)
  have hip := idF_pos hmay
  have hib : (idF m h.t h.l == 0) = false := by simp; omega
  have HND := hid (fun (x : World) => (show Calls Try.prog 56 #[m.v, .int .i64 h.l, .int .i64 (idF m h.t h.l), .int .i64 1] x fun e w' => e = .returned (.int .i64 (m.node h.t h.l 1)) ∧ Below x.heap.size x w' from by have := mnode_any m h.l (idF m h.t h.l) 1 x; rwa [nodeF_id hmay] at this))
  have HMO := hid (fun (x : World) (hb : Mem x B b vw s) => Load_at (m.node h.t h.l 1) x B b vw s hb)
  clear hmay hip hm hz
  generalize idF m h.t h.l = i at *
  generalize m.node h.t h.l 1 = p at *
  generalize s.eAt p = ee at *
  generalize s.vAt p = y at *
  obtain ⟨s1, ml, mt, c, d⟩ := m
  obtain ⟨ht, hl, hs, hr, hx⟩ := h
  simp only at hsv
  subst hsv
  show Calls _ _ #[.agg #[.int .i64 s1, .int .i64 ml, .int .i64 mt, .int .i64 c, .int .i64 d], _, .agg #[.int .i64 ht, .int .i64 hl, .int .i64 6, .bool hr, .int .i64 hx]] _ _
  go_enter Try.func33, Try.ntmps33
  go_upto_region 1 with fail
  refine wp_rename _ HST.out ?_
  intro W hk
  have HK := hid hk
  obtain ⟨m0, m1, m2, m3, m4, _⟩ := hk.three.map.facts
  obtain ⟨d0, d1, d2, d3, d4, df⟩ := hk.three.box.facts
  obtain ⟨o0, o1, o2, o3, o4, of⟩ := hk.three.out.facts
  clear hk HST
  go_wp2_with (first | (go_at_call 54; (with_reducible refine (HID.out _).mono ?_); rintro e w1 ⟨rfl, hb1⟩; have HK := hid (HK.out.below hb1); clear hb1; clear m0 m1 m2 m3 m4 d0 d1 d2 d3 d4 df o0 o1 o2 o3 o4 of; obtain ⟨m0, m1, m2, m3, m4, _⟩ := HK.out.three.map.facts; obtain ⟨d0, d1, d2, d3, d4, df⟩ := HK.out.three.box.facts; obtain ⟨o0, o1, o2, o3, o4, of⟩ := HK.out.three.out.facts) | (go_at_call 55; (with_reducible refine (HWH.out _ HK.out.mem).mono ?_); rintro e w2 ⟨rfl, hb2⟩; have HK := hid (HK.out.below hb2); clear hb2; clear m0 m1 m2 m3 m4 d0 d1 d2 d3 d4 df o0 o1 o2 o3 o4 of; obtain ⟨m0, m1, m2, m3, m4, _⟩ := HK.out.three.map.facts; obtain ⟨d0, d1, d2, d3, d4, df⟩ := HK.out.three.box.facts; obtain ⟨o0, o1, o2, o3, o4, of⟩ := HK.out.three.out.facts) | (go_at_call 56; (with_reducible refine (HND.out _).mono ?_); rintro e w3 ⟨rfl, hb3⟩; have HK := hid (HK.out.below hb3); clear hb3; clear m0 m1 m2 m3 m4 d0 d1 d2 d3 d4 df o0 o1 o2 o3 o4 of; obtain ⟨m0, m1, m2, m3, m4, _⟩ := HK.out.three.map.facts; obtain ⟨d0, d1, d2, d3, d4, df⟩ := HK.out.three.box.facts; obtain ⟨o0, o1, o2, o3, o4, of⟩ := HK.out.three.out.facts) | (go_at_call 40; (with_reducible refine (HMO.out _ HK.out.mem).mono ?_); rintro e w4 ⟨rfl, hm4, hw4⟩; have HK := hid (HK.out.next hm4 hw4 HOLD.out); clear hm4 hw4; clear m0 m1 m2 m3 m4 d0 d1 d2 d3 d4 df o0 o1 o2 o3 o4 of; obtain ⟨m0, m1, m2, m3, m4, _⟩ := HK.out.three.map.facts; obtain ⟨d0, d1, d2, d3, d4, df⟩ := HK.out.three.box.facts; obtain ⟨o0, o1, o2, o3, o4, of⟩ := HK.out.three.out.facts))
  refine bodyPost_ret (v := (HD.mk ht hl 8 hr y).v) (by simp [results, Try.results33, go_sem, o0, o1, o2, o3, o4, of]) rfl ?_
  exact (((HK.out.setS HOLD.out 8)).setX HOLD.out y).done HOLD.out _ _ rfl rfl rfl _ _ _ _ _

set_option maxRecDepth 100000 in
set_option maxHeartbeats 4000000 in
theorem mDrop_7 (m : PM) (h : HD) (w : World) (B b : Nat) (vw : Value) (s : MS) (hm : Mem w B b vw s) (hz : m.size ≤ (s.zs.length : Int)) (hmay : mayH m h) (hsv : h.s = 7) (hy : s.vAt (m.at_ 3 h.l 0) = idF m h.t h.l) :
    Calls Try.prog 33 #[m.v, .pointer (some ⟨b, 0, none⟩), h.v] w (HandRet 72 2 ⟨h.t, h.l, 0, h.rd, h.x⟩ (s.swapped (m.at_ 3 h.l 0) (idF m h.t h.l) 0) B b vw w) := by
  have HST := hid (TkAt.start 72 26 2 m h h0 hm)
  have HOLD := hid hm.hold
  have HID := hid (fun (x : World) => Id_any m h.t h.l x)
  have HWH := hid (fun (x : World) (hb : Mem x B b vw s) => mwhole_yes m x B b vw s hb hz)
  have hip := idF_pos hmay
  have hib : (idF m h.t h.l == 0) = false := by simp; omega
  have HTL := hid (fun (x : World) => tail_any m h.l x)
  have hp := lock_in hmay (p := 0) (by decide) (by decide)
  have hok := MS.okAt_in (s := s) (p := m.at_ 3 h.l 0) (o := idF m h.t h.l) hp.2.1 (by omega)
  have HMO := hid (fun (x : World) (hb : Mem x B b vw s) => Swap_at (m.at_ 3 h.l 0) (idF m h.t h.l) 0 x B b vw s hb)
  simp only [hok] at HMO
  simp only [decide_eq_true hy] at HMO
  clear hp hok hy
  clear hmay hip hm hz
  generalize idF m h.t h.l = i at *
  generalize m.at_ 3 h.l 0 = p at *
  generalize s.eAt p = ee at *
  generalize s.vAt p = y at *
  obtain ⟨s1, ml, mt, c, d⟩ := m
  obtain ⟨ht, hl, hs, hr, hx⟩ := h
  simp only at hsv
  subst hsv
  show Calls _ _ #[.agg #[.int .i64 s1, .int .i64 ml, .int .i64 mt, .int .i64 c, .int .i64 d], _, .agg #[.int .i64 ht, .int .i64 hl, .int .i64 7, .bool hr, .int .i64 hx]] _ _
  go_enter Try.func33, Try.ntmps33
  go_upto_region 1 with fail
  refine wp_rename _ HST.out ?_
  intro W hk
  have HK := hid hk
  obtain ⟨m0, m1, m2, m3, m4, _⟩ := hk.three.map.facts
  obtain ⟨d0, d1, d2, d3, d4, df⟩ := hk.three.box.facts
  obtain ⟨o0, o1, o2, o3, o4, of⟩ := hk.three.out.facts
  clear hk HST
  go_upto_region 14 with (first | (go_at_call 54; (with_reducible refine (HID.out _).mono ?_); rintro e w1 ⟨rfl, hb1⟩; have HK := hid (HK.out.below hb1); clear hb1; clear m0 m1 m2 m3 m4 d0 d1 d2 d3 d4 df o0 o1 o2 o3 o4 of; obtain ⟨m0, m1, m2, m3, m4, _⟩ := HK.out.three.map.facts; obtain ⟨d0, d1, d2, d3, d4, df⟩ := HK.out.three.box.facts; obtain ⟨o0, o1, o2, o3, o4, of⟩ := HK.out.three.out.facts) | (go_at_call 55; (with_reducible refine (HWH.out _ HK.out.mem).mono ?_); rintro e w2 ⟨rfl, hb2⟩; have HK := hid (HK.out.below hb2); clear hb2; clear m0 m1 m2 m3 m4 d0 d1 d2 d3 d4 df o0 o1 o2 o3 o4 of; obtain ⟨m0, m1, m2, m3, m4, _⟩ := HK.out.three.map.facts; obtain ⟨d0, d1, d2, d3, d4, df⟩ := HK.out.three.box.facts; obtain ⟨o0, o1, o2, o3, o4, of⟩ := HK.out.three.out.facts))
  refine wp_rename _ (HK.out.setS HOLD.out 6) ?_
  clear m0 m1 m2 m3 m4 d0 d1 d2 d3 d4 df o0 o1 o2 o3 o4 of
  intro W9 hk9
  have HK := hid hk9
  obtain ⟨m0, m1, m2, m3, m4, _⟩ := hk9.three.map.facts
  obtain ⟨d0, d1, d2, d3, d4, df⟩ := hk9.three.box.facts
  obtain ⟨o0, o1, o2, o3, o4, of⟩ := hk9.three.out.facts
  clear hk9
  go_wp2_with (first | (go_at_call 58; (with_reducible refine (HTL.out _).mono ?_); rintro e w3 ⟨rfl, hb3⟩; have HK := hid (HK.out.below hb3); clear hb3; clear m0 m1 m2 m3 m4 d0 d1 d2 d3 d4 df o0 o1 o2 o3 o4 of; obtain ⟨m0, m1, m2, m3, m4, _⟩ := HK.out.three.map.facts; obtain ⟨d0, d1, d2, d3, d4, df⟩ := HK.out.three.box.facts; obtain ⟨o0, o1, o2, o3, o4, of⟩ := HK.out.three.out.facts) | (go_at_call 57; (with_reducible refine (HMO.out _ HK.out.mem).mono ?_); rintro e w4 ⟨rfl, hm4, hw4⟩; have HK := hid (HK.out.next hm4 hw4 HOLD.out); clear hm4 hw4; clear m0 m1 m2 m3 m4 d0 d1 d2 d3 d4 df o0 o1 o2 o3 o4 of; obtain ⟨m0, m1, m2, m3, m4, _⟩ := HK.out.three.map.facts; obtain ⟨d0, d1, d2, d3, d4, df⟩ := HK.out.three.box.facts; obtain ⟨o0, o1, o2, o3, o4, of⟩ := HK.out.three.out.facts))
  refine bodyPost_ret (v := (HD.mk ht hl 0 hr hx).v) (by simp [results, Try.results33, go_sem, o0, o1, o2, o3, o4, of]) rfl ?_
  exact (HK.out.setS HOLD.out 0).done HOLD.out _ _ rfl rfl rfl _ _ _ _ _

set_option maxRecDepth 100000 in
set_option maxHeartbeats 4000000 in
theorem mDrop_7n (m : PM) (h : HD) (w : World) (B b : Nat) (vw : Value) (s : MS) (hm : Mem w B b vw s) (hz : m.size ≤ (s.zs.length : Int)) (hmay : mayH m h) (hsv : h.s = 7) (hy : ¬ s.vAt (m.at_ 3 h.l 0) = idF m h.t h.l) :
    Calls Try.prog 33 #[m.v, .pointer (some ⟨b, 0, none⟩), h.v] w (HandRet 72 2 ⟨h.t, h.l, 6, h.rd, h.x⟩ (s.swapped (m.at_ 3 h.l 0) (idF m h.t h.l) 0) B b vw w) := by
  have HST := hid (TkAt.start 72 26 2 m h h0 hm)
  have HOLD := hid hm.hold
  have HID := hid (fun (x : World) => Id_any m h.t h.l x)
  have HWH := hid (fun (x : World) (hb : Mem x B b vw s) => mwhole_yes m x B b vw s hb hz)
  have hip := idF_pos hmay
  have hib : (idF m h.t h.l == 0) = false := by simp; omega
  have HTL := hid (fun (x : World) => tail_any m h.l x)
  have hp := lock_in hmay (p := 0) (by decide) (by decide)
  have hok := MS.okAt_in (s := s) (p := m.at_ 3 h.l 0) (o := idF m h.t h.l) hp.2.1 (by omega)
  have HMO := hid (fun (x : World) (hb : Mem x B b vw s) => Swap_at (m.at_ 3 h.l 0) (idF m h.t h.l) 0 x B b vw s hb)
  simp only [hok] at HMO
  simp only [decide_eq_false hy] at HMO
  clear hp hok hy
  clear hmay hip hm hz
  generalize idF m h.t h.l = i at *
  generalize m.at_ 3 h.l 0 = p at *
  generalize s.eAt p = ee at *
  generalize s.vAt p = y at *
  obtain ⟨s1, ml, mt, c, d⟩ := m
  obtain ⟨ht, hl, hs, hr, hx⟩ := h
  simp only at hsv
  subst hsv
  show Calls _ _ #[.agg #[.int .i64 s1, .int .i64 ml, .int .i64 mt, .int .i64 c, .int .i64 d], _, .agg #[.int .i64 ht, .int .i64 hl, .int .i64 7, .bool hr, .int .i64 hx]] _ _
  go_enter Try.func33, Try.ntmps33
  go_upto_region 1 with fail
  refine wp_rename _ HST.out ?_
  intro W hk
  have HK := hid hk
  obtain ⟨m0, m1, m2, m3, m4, _⟩ := hk.three.map.facts
  obtain ⟨d0, d1, d2, d3, d4, df⟩ := hk.three.box.facts
  obtain ⟨o0, o1, o2, o3, o4, of⟩ := hk.three.out.facts
  clear hk HST
  go_upto_region 14 with (first | (go_at_call 54; (with_reducible refine (HID.out _).mono ?_); rintro e w1 ⟨rfl, hb1⟩; have HK := hid (HK.out.below hb1); clear hb1; clear m0 m1 m2 m3 m4 d0 d1 d2 d3 d4 df o0 o1 o2 o3 o4 of; obtain ⟨m0, m1, m2, m3, m4, _⟩ := HK.out.three.map.facts; obtain ⟨d0, d1, d2, d3, d4, df⟩ := HK.out.three.box.facts; obtain ⟨o0, o1, o2, o3, o4, of⟩ := HK.out.three.out.facts) | (go_at_call 55; (with_reducible refine (HWH.out _ HK.out.mem).mono ?_); rintro e w2 ⟨rfl, hb2⟩; have HK := hid (HK.out.below hb2); clear hb2; clear m0 m1 m2 m3 m4 d0 d1 d2 d3 d4 df o0 o1 o2 o3 o4 of; obtain ⟨m0, m1, m2, m3, m4, _⟩ := HK.out.three.map.facts; obtain ⟨d0, d1, d2, d3, d4, df⟩ := HK.out.three.box.facts; obtain ⟨o0, o1, o2, o3, o4, of⟩ := HK.out.three.out.facts))
  refine wp_rename _ (HK.out.setS HOLD.out 6) ?_
  clear m0 m1 m2 m3 m4 d0 d1 d2 d3 d4 df o0 o1 o2 o3 o4 of
  intro W9 hk9
  have HK := hid hk9
  obtain ⟨m0, m1, m2, m3, m4, _⟩ := hk9.three.map.facts
  obtain ⟨d0, d1, d2, d3, d4, df⟩ := hk9.three.box.facts
  obtain ⟨o0, o1, o2, o3, o4, of⟩ := hk9.three.out.facts
  clear hk9
  go_wp2_with (first | (go_at_call 58; (with_reducible refine (HTL.out _).mono ?_); rintro e w3 ⟨rfl, hb3⟩; have HK := hid (HK.out.below hb3); clear hb3; clear m0 m1 m2 m3 m4 d0 d1 d2 d3 d4 df o0 o1 o2 o3 o4 of; obtain ⟨m0, m1, m2, m3, m4, _⟩ := HK.out.three.map.facts; obtain ⟨d0, d1, d2, d3, d4, df⟩ := HK.out.three.box.facts; obtain ⟨o0, o1, o2, o3, o4, of⟩ := HK.out.three.out.facts) | (go_at_call 57; (with_reducible refine (HMO.out _ HK.out.mem).mono ?_); rintro e w4 ⟨rfl, hm4, hw4⟩; have HK := hid (HK.out.next hm4 hw4 HOLD.out); clear hm4 hw4; clear m0 m1 m2 m3 m4 d0 d1 d2 d3 d4 df o0 o1 o2 o3 o4 of; obtain ⟨m0, m1, m2, m3, m4, _⟩ := HK.out.three.map.facts; obtain ⟨d0, d1, d2, d3, d4, df⟩ := HK.out.three.box.facts; obtain ⟨o0, o1, o2, o3, o4, of⟩ := HK.out.three.out.facts))
  refine bodyPost_ret (v := (HD.mk ht hl 6 hr hx).v) (by simp [results, Try.results33, go_sem, o0, o1, o2, o3, o4, of]) rfl ?_
  exact HK.out.done HOLD.out _ _ rfl rfl rfl _ _ _ _ _

set_option maxRecDepth 100000 in
set_option maxHeartbeats 4000000 in
theorem mDrop_8 (m : PM) (h : HD) (w : World) (B b : Nat) (vw : Value) (s : MS) (hm : Mem w B b vw s) (hz : m.size ≤ (s.zs.length : Int)) (hmay : mayH m h) (hsv : h.s = 8) (hpos : 0 ≤ nodeF m h.l h.x 0) :
    Calls Try.prog 33 #[m.v, .pointer (some ⟨b, 0, none⟩), h.v] w (HandRet 72 2 ⟨h.t, h.l, 0, h.rd, 0⟩ (s.stored (nodeF m h.l h.x 0) 0) B b vw w) := by
  have HST := hid (TkAt.start 72 26 2 m h h0 hm)
  have HOLD := hid hm.hold
  have HID := hid (fun (x : World) => Id_any m h.t h.l x)
  have HWH := hid (fun (x : World) (hb : Mem x B b vw s) => mwhole_yes m x B b vw s hb hz)
  have hip := idF_pos hmay
  have hib : (idF m h.t h.l == 0) = false := by simp; omega
  have HND := hid (fun (x : World) => mnode_any m h.l h.x 0 x)
  have hin : s.eAt (nodeF m h.l h.x 0) = 0 := MS.eAt_in hpos (by rcases nodeF_range m h.l h.x 0 (by decide) (by decide) with h | h <;> omega)
  have HMO := hid (fun (x : World) (hb : Mem x B b vw s) => Store_at (nodeF m h.l h.x 0) 0 x B b vw s hb)
  simp only [hin] at HMO
  clear hin
  clear hmay hip hm hz
  generalize idF m h.t h.l = i at *
  generalize nodeF m h.l h.x 0 = p at *
  obtain ⟨s1, ml, mt, c, d⟩ := m
  obtain ⟨ht, hl, hs, hr, hx⟩ := h
  simp only at hsv
  subst hsv
  show Calls _ _ #[.agg #[.int .i64 s1, .int .i64 ml, .int .i64 mt, .int .i64 c, .int .i64 d], _, .agg #[.int .i64 ht, .int .i64 hl, .int .i64 8, .bool hr, .int .i64 hx]] _ _
  go_enter Try.func33, Try.ntmps33
  go_upto_region 1 with fail
  refine wp_rename _ HST.out ?_
  intro W hk
  have HK := hid hk
  obtain ⟨m0, m1, m2, m3, m4, _⟩ := hk.three.map.facts
  obtain ⟨d0, d1, d2, d3, d4, df⟩ := hk.three.box.facts
  obtain ⟨o0, o1, o2, o3, o4, of⟩ := hk.three.out.facts
  clear hk HST
  go_wp2_with (first | (go_at_call 54; (with_reducible refine (HID.out _).mono ?_); rintro e w1 ⟨rfl, hb1⟩; have HK := hid (HK.out.below hb1); clear hb1; clear m0 m1 m2 m3 m4 d0 d1 d2 d3 d4 df o0 o1 o2 o3 o4 of; obtain ⟨m0, m1, m2, m3, m4, _⟩ := HK.out.three.map.facts; obtain ⟨d0, d1, d2, d3, d4, df⟩ := HK.out.three.box.facts; obtain ⟨o0, o1, o2, o3, o4, of⟩ := HK.out.three.out.facts) | (go_at_call 55; (with_reducible refine (HWH.out _ HK.out.mem).mono ?_); rintro e w2 ⟨rfl, hb2⟩; have HK := hid (HK.out.below hb2); clear hb2; clear m0 m1 m2 m3 m4 d0 d1 d2 d3 d4 df o0 o1 o2 o3 o4 of; obtain ⟨m0, m1, m2, m3, m4, _⟩ := HK.out.three.map.facts; obtain ⟨d0, d1, d2, d3, d4, df⟩ := HK.out.three.box.facts; obtain ⟨o0, o1, o2, o3, o4, of⟩ := HK.out.three.out.facts) | (go_at_call 56; (with_reducible refine (HND.out _).mono ?_); rintro e w3 ⟨rfl, hb3⟩; have HK := hid (HK.out.below hb3); clear hb3; clear m0 m1 m2 m3 m4 d0 d1 d2 d3 d4 df o0 o1 o2 o3 o4 of; obtain ⟨m0, m1, m2, m3, m4, _⟩ := HK.out.three.map.facts; obtain ⟨d0, d1, d2, d3, d4, df⟩ := HK.out.three.box.facts; obtain ⟨o0, o1, o2, o3, o4, of⟩ := HK.out.three.out.facts) | (go_at_call 59; (with_reducible refine (HMO.out _ HK.out.mem).mono ?_); rintro e w4 ⟨rfl, hm4, hw4⟩; have HK := hid (HK.out.next hm4 hw4 HOLD.out); clear hm4 hw4; clear m0 m1 m2 m3 m4 d0 d1 d2 d3 d4 df o0 o1 o2 o3 o4 of; obtain ⟨m0, m1, m2, m3, m4, _⟩ := HK.out.three.map.facts; obtain ⟨d0, d1, d2, d3, d4, df⟩ := HK.out.three.box.facts; obtain ⟨o0, o1, o2, o3, o4, of⟩ := HK.out.three.out.facts))
  refine bodyPost_ret (v := (HD.mk ht hl 0 hr 0).v) (by simp [results, Try.results33, go_sem, o0, o1, o2, o3, o4, of]) rfl ?_
  exact ((HK.out.setS HOLD.out 0).setX HOLD.out 0).done HOLD.out _ _ rfl rfl rfl _ _ _ _ _

set_option maxRecDepth 100000 in
set_option maxHeartbeats 4000000 in
theorem mDrop_8n (m : PM) (h : HD) (w : World) (B b : Nat) (vw : Value) (s : MS) (hm : Mem w B b vw s) (hz : m.size ≤ (s.zs.length : Int)) (hmay : mayH m h) (hsv : h.s = 8) (hnp : ¬ 0 ≤ nodeF m h.l h.x 0) :
    Calls Try.prog 33 #[m.v, .pointer (some ⟨b, 0, none⟩), h.v] w (HandRet 72 2 h s B b vw w) := by
  have HST := hid (TkAt.start 72 26 2 m h h0 hm)
  have HOLD := hid hm.hold
  have HID := hid (fun (x : World) => Id_any m h.t h.l x)
  have HWH := hid (fun (x : World) (hb : Mem x B b vw s) => mwhole_yes m x B b vw s hb hz)
  have hip := idF_pos hmay
  have hib : (idF m h.t h.l == 0) = false := by simp; omega
  have HND := hid (fun (x : World) => mnode_any m h.l h.x 0 x)
  have hneg : nodeF m h.l h.x 0 = -1 := by rcases nodeF_range m h.l h.x 0 (by decide) (by decide) with h | h <;> omega
  have hout := MS.eAt_out (s := s)
  simp only [hneg] at HND
  have HMO := hid (fun (x : World) (hb : Mem x B b vw s) => Store_at (-1) 0 x B b vw s hb)
  simp only [hout, MS.stored_out] at HMO
  clear hout hneg hnp
  clear hmay hip hm hz
  generalize idF m h.t h.l = i at *
  obtain ⟨s1, ml, mt, c, d⟩ := m
  obtain ⟨ht, hl, hs, hr, hx⟩ := h
  simp only at hsv
  subst hsv
  show Calls _ _ #[.agg #[.int .i64 s1, .int .i64 ml, .int .i64 mt, .int .i64 c, .int .i64 d], _, .agg #[.int .i64 ht, .int .i64 hl, .int .i64 8, .bool hr, .int .i64 hx]] _ _
  go_enter Try.func33, Try.ntmps33
  go_upto_region 1 with fail
  refine wp_rename _ HST.out ?_
  intro W hk
  have HK := hid hk
  obtain ⟨m0, m1, m2, m3, m4, _⟩ := hk.three.map.facts
  obtain ⟨d0, d1, d2, d3, d4, df⟩ := hk.three.box.facts
  obtain ⟨o0, o1, o2, o3, o4, of⟩ := hk.three.out.facts
  clear hk HST
  go_wp2_with (first | (go_at_call 54; (with_reducible refine (HID.out _).mono ?_); rintro e w1 ⟨rfl, hb1⟩; have HK := hid (HK.out.below hb1); clear hb1; clear m0 m1 m2 m3 m4 d0 d1 d2 d3 d4 df o0 o1 o2 o3 o4 of; obtain ⟨m0, m1, m2, m3, m4, _⟩ := HK.out.three.map.facts; obtain ⟨d0, d1, d2, d3, d4, df⟩ := HK.out.three.box.facts; obtain ⟨o0, o1, o2, o3, o4, of⟩ := HK.out.three.out.facts) | (go_at_call 55; (with_reducible refine (HWH.out _ HK.out.mem).mono ?_); rintro e w2 ⟨rfl, hb2⟩; have HK := hid (HK.out.below hb2); clear hb2; clear m0 m1 m2 m3 m4 d0 d1 d2 d3 d4 df o0 o1 o2 o3 o4 of; obtain ⟨m0, m1, m2, m3, m4, _⟩ := HK.out.three.map.facts; obtain ⟨d0, d1, d2, d3, d4, df⟩ := HK.out.three.box.facts; obtain ⟨o0, o1, o2, o3, o4, of⟩ := HK.out.three.out.facts) | (go_at_call 56; (with_reducible refine (HND.out _).mono ?_); rintro e w3 ⟨rfl, hb3⟩; have HK := hid (HK.out.below hb3); clear hb3; clear m0 m1 m2 m3 m4 d0 d1 d2 d3 d4 df o0 o1 o2 o3 o4 of; obtain ⟨m0, m1, m2, m3, m4, _⟩ := HK.out.three.map.facts; obtain ⟨d0, d1, d2, d3, d4, df⟩ := HK.out.three.box.facts; obtain ⟨o0, o1, o2, o3, o4, of⟩ := HK.out.three.out.facts) | (go_at_call 59; (with_reducible refine (HMO.out _ HK.out.mem).mono ?_); rintro e w4 ⟨rfl, hm4, hw4⟩; have HK := hid (HK.out.next hm4 hw4 HOLD.out); clear hm4 hw4; clear m0 m1 m2 m3 m4 d0 d1 d2 d3 d4 df o0 o1 o2 o3 o4 of; obtain ⟨m0, m1, m2, m3, m4, _⟩ := HK.out.three.map.facts; obtain ⟨d0, d1, d2, d3, d4, df⟩ := HK.out.three.box.facts; obtain ⟨o0, o1, o2, o3, o4, of⟩ := HK.out.three.out.facts))
  refine bodyPost_ret (v := (HD.mk ht hl 8 hr hx).v) (by simp [results, Try.results33, go_sem, o0, o1, o2, o3, o4, of]) rfl ?_
  exact HK.out.done HOLD.out _ _ rfl rfl rfl _ _ _ _ _

set_option maxRecDepth 100000 in
set_option maxHeartbeats 4000000 in
theorem mDrop_q (m : PM) (h : HD) (w : World) (B b : Nat) (vw : Value) (s : MS) (hm : Mem w B b vw s) (hz : m.size ≤ (s.zs.length : Int)) (hmay : mayH m h) (q9 : ¬ h.s = 9) (q6 : ¬ h.s = 6) (q7 : ¬ h.s = 7) (q8 : ¬ h.s = 8) :
    Calls Try.prog 33 #[m.v, .pointer (some ⟨b, 0, none⟩), h.v] w (HandRet 72 2 h s B b vw w) := by
  have HST := hid (TkAt.start 72 26 2 m h h0 hm)
  have HOLD := hid hm.hold
  have HID := hid (fun (x : World) => Id_any m h.t h.l x)
  have HWH := hid (fun (x : World) (hb : Mem x B b vw s) => mwhole_yes m x B b vw s hb hz)
  have hip := idF_pos hmay
  have hib : (idF m h.t h.l == 0) = false := by simp; omega
  clear hmay hip hm hz
  generalize idF m h.t h.l = i at *
  obtain ⟨s1, ml, mt, c, d⟩ := m
  obtain ⟨ht, hl, hs, hr, hx⟩ := h
  simp only at q9 q6 q7 q8
  show Calls _ _ #[.agg #[.int .i64 s1, .int .i64 ml, .int .i64 mt, .int .i64 c, .int .i64 d], _, .agg #[.int .i64 ht, .int .i64 hl, .int .i64 hs, .bool hr, .int .i64 hx]] _ _
  go_enter Try.func33, Try.ntmps33
  go_upto_region 1 with fail
  refine wp_rename _ HST.out ?_
  intro W hk
  have HK := hid hk
  obtain ⟨m0, m1, m2, m3, m4, _⟩ := hk.three.map.facts
  obtain ⟨d0, d1, d2, d3, d4, df⟩ := hk.three.box.facts
  obtain ⟨o0, o1, o2, o3, o4, of⟩ := hk.three.out.facts
  clear hk HST
  go_wp2_with (first | (go_at_call 54; (with_reducible refine (HID.out _).mono ?_); rintro e w1 ⟨rfl, hb1⟩; have HK := hid (HK.out.below hb1); clear hb1; clear m0 m1 m2 m3 m4 d0 d1 d2 d3 d4 df o0 o1 o2 o3 o4 of; obtain ⟨m0, m1, m2, m3, m4, _⟩ := HK.out.three.map.facts; obtain ⟨d0, d1, d2, d3, d4, df⟩ := HK.out.three.box.facts; obtain ⟨o0, o1, o2, o3, o4, of⟩ := HK.out.three.out.facts) | (go_at_call 55; (with_reducible refine (HWH.out _ HK.out.mem).mono ?_); rintro e w2 ⟨rfl, hb2⟩; have HK := hid (HK.out.below hb2); clear hb2; clear m0 m1 m2 m3 m4 d0 d1 d2 d3 d4 df o0 o1 o2 o3 o4 of; obtain ⟨m0, m1, m2, m3, m4, _⟩ := HK.out.three.map.facts; obtain ⟨d0, d1, d2, d3, d4, df⟩ := HK.out.three.box.facts; obtain ⟨o0, o1, o2, o3, o4, of⟩ := HK.out.three.out.facts))
  refine bodyPost_ret (v := (HD.mk ht hl hs hr hx).v) (by simp [results, Try.results33, go_sem, o0, o1, o2, o3, o4, of]) rfl ?_
  exact HK.out.done HOLD.out _ _ rfl rfl rfl _ _ _ _ _

theorem mDrop_any (m : PM) (h : HD) (w : World) (B b : Nat) (vw : Value) (s : MS) (hm : Mem w B b vw s) (hz : m.size ≤ (s.zs.length : Int)) :
    Calls Try.prog 33 #[m.v, .pointer (some ⟨b, 0, none⟩), h.v] w (HandRet 72 2 (mcDrop m s h).1 (mcDrop m s h).2 B b vw w) := by
  unfold mcDrop
  by_cases hmay : mayH m h
  · rw [if_pos hmay]
    by_cases q9 : h.s = 9
    · rw [if_pos q9]
      by_cases c : s.vAt (m.node h.t h.l 1) = 0
      · rw [if_pos c]; exact mDrop_9 m h w B b vw s hm hz hmay q9 c
      · rw [if_neg c]; exact mDrop_9n m h w B b vw s hm hz hmay q9 c
    rw [if_neg q9]
    by_cases q6 : h.s = 6
    · rw [if_pos q6]
      by_cases c : s.vAt (m.node h.t h.l 1) = 0
      · rw [if_pos c]; exact mDrop_6 m h w B b vw s hm hz hmay q6 c
      · rw [if_neg c]; exact mDrop_6n m h w B b vw s hm hz hmay q6 c
    rw [if_neg q6]
    by_cases q7 : h.s = 7
    · rw [if_pos q7]
      by_cases c : s.vAt (m.at_ 3 h.l 0) = idF m h.t h.l
      · rw [if_pos c]; exact mDrop_7 m h w B b vw s hm hz hmay q7 c
      · rw [if_neg c]; exact mDrop_7n m h w B b vw s hm hz hmay q7 c
    rw [if_neg q7]
    by_cases q8 : h.s = 8
    · rw [if_pos q8]
      by_cases c : 0 ≤ nodeF m h.l h.x 0
      · rw [if_pos c]; exact mDrop_8 m h w B b vw s hm hz hmay q8 c
      · rw [if_neg c]; exact mDrop_8n m h w B b vw s hm hz hmay q8 c
    rw [if_neg q8]
    exact mDrop_q m h w B b vw s hm hz hmay q9 q6 q7 q8
  · rw [if_neg hmay]
    exact mDrop_no m h w B b vw s hm hz hmay

end Go.Proofs.Ytmcmajndcbobpaa
