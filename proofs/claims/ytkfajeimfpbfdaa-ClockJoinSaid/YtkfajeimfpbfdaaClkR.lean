/-
  THE CONTRACT of the document's StepBump.
-/
import Derived.Test.YtkfajeimfpbfdaaBmp
namespace Go.Proofs.Ytkfajeimfpbfdaa
open Go.RowKit
attribute [local go_sem] Later.cell Later.frozen and1

theorem clock_in {m : PM} (ho : m.Ok) : 0 ≤ m.at_ 0 0 0 ∧ m.at_ 0 0 0 < m.size := by
  have e := PM.at_in ho (k := 0) (i := 0) (p := 0) (by omega) (by simp only [PM.many]; omega) (by omega) (by simp only [PM.each]; omega)
  have h6 := (m.size_bounds ho).1
  rw [e]
  simp only [PM.from_, PM.each]
  omega
theorem seq_in {m : PM} (ho : m.Ok) : 0 ≤ m.at_ 1 0 0 ∧ m.at_ 1 0 0 < m.size := by
  have e := PM.at_in ho (k := 1) (i := 0) (p := 0) (by omega) (by simp only [PM.many]; omega) (by omega) (by simp only [PM.each]; omega)
  have h6 := (m.size_bounds ho).1
  rw [e]
  simp only [PM.from_, PM.each]
  omega
set_option maxRecDepth 100000 in
set_option maxHeartbeats 4000000 in
theorem rstep_no3 (m : PM) (h : BD) (w : World) (B b : Nat) (vw : Value) (s : MS) (hm : Ref w B b vw s) (ho : ¬ m.Ok) (hkv : h.k = 3) :
    Calls Try.prog 14 #[m.v, .pointer (some ⟨b, 0, none⟩), h.v] w (BumpRet 68 2 h s B b vw w) := by
  have HST := hid (MkAt.start 38 36 68 2 m h hm)
  have HOLD := hid hm.young
  have HCK := hid (fun (x : World) => refClock_any m x)
  have HSQ := hid (fun (x : World) => refSeq_any m x)
  have hp0 : m.at_ 0 0 0 = -1 := PM.at_out (.inl ho)
  simp only [hp0] at HCK
  have hp1 : m.at_ 1 0 0 = -1 := PM.at_out (.inl ho)
  simp only [hp1] at HSQ
  clear hm ho hp0 hp1
  obtain ⟨s1, ml, mt, c, d⟩ := m
  obtain ⟨hk, hs, hx, hp⟩ := h
  simp only at hkv
  subst hkv
  show Calls _ _ #[.agg #[.int .i64 s1, .int .i64 ml, .int .i64 mt, .int .i64 c, .int .i64 d], _, .agg #[.int .i64 3, .int .i64 hs, .int .i64 hx, .int .i64 hp]] _ _
  go_enter Try.func14, Try.ntmps14
  go_upto_region 1 with fail
  refine wp_rename _ HST.out ?_
  intro W hbk
  have HK := hid hbk
  obtain ⟨m0, m1, m2, m3, m4, _⟩ := hbk.map.facts
  obtain ⟨d0, d1, d2, d3, df⟩ := hbk.bk.box.facts
  obtain ⟨o0, o1, o2, o3, of⟩ := hbk.bk.out.facts
  clear hbk HST
  go_wp2_with (first | (go_at_call 39; (with_reducible refine (HCK.out _).mono ?_); rintro e w1 ⟨rfl, hb1⟩; have HK := hid (HK.out.below hb1); clear hb1; clear m0 m1 m2 m3 m4 d0 d1 d2 d3 df o0 o1 o2 o3 of; obtain ⟨m0, m1, m2, m3, m4, _⟩ := HK.out.map.facts; obtain ⟨d0, d1, d2, d3, df⟩ := HK.out.bk.box.facts; obtain ⟨o0, o1, o2, o3, of⟩ := HK.out.bk.out.facts) | (go_at_call 40; (with_reducible refine (HSQ.out _).mono ?_); rintro e w2 ⟨rfl, hb2⟩; have HK := hid (HK.out.below hb2); clear hb2; clear m0 m1 m2 m3 m4 d0 d1 d2 d3 df o0 o1 o2 o3 of; obtain ⟨m0, m1, m2, m3, m4, _⟩ := HK.out.map.facts; obtain ⟨d0, d1, d2, d3, df⟩ := HK.out.bk.box.facts; obtain ⟨o0, o1, o2, o3, of⟩ := HK.out.bk.out.facts))
  refine bodyPost_ret (v := (BD.mk 3 hs hx hp).v) (by simp [results, Try.results14, go_sem, o0, o1, o2, o3, of]) rfl ?_
  exact HK.out.bk.done HOLD.out _ _ rfl rfl rfl _ _ _ _

set_option maxRecDepth 100000 in
set_option maxHeartbeats 4000000 in
theorem rstep_noq (m : PM) (h : BD) (w : World) (B b : Nat) (vw : Value) (s : MS) (hm : Ref w B b vw s) (ho : ¬ m.Ok) (hkv : ¬ h.k = 3) :
    Calls Try.prog 14 #[m.v, .pointer (some ⟨b, 0, none⟩), h.v] w (BumpRet 68 2 h s B b vw w) := by
  have HST := hid (MkAt.start 38 36 68 2 m h hm)
  have HOLD := hid hm.young
  have HCK := hid (fun (x : World) => refClock_any m x)
  have hp0 : m.at_ 0 0 0 = -1 := PM.at_out (.inl ho)
  simp only [hp0] at HCK
  clear hm ho hp0
  obtain ⟨s1, ml, mt, c, d⟩ := m
  obtain ⟨hk, hs, hx, hp⟩ := h
  simp only at hkv
  show Calls _ _ #[.agg #[.int .i64 s1, .int .i64 ml, .int .i64 mt, .int .i64 c, .int .i64 d], _, .agg #[.int .i64 hk, .int .i64 hs, .int .i64 hx, .int .i64 hp]] _ _
  go_enter Try.func14, Try.ntmps14
  go_upto_region 1 with fail
  refine wp_rename _ HST.out ?_
  intro W hbk
  have HK := hid hbk
  obtain ⟨m0, m1, m2, m3, m4, _⟩ := hbk.map.facts
  obtain ⟨d0, d1, d2, d3, df⟩ := hbk.bk.box.facts
  obtain ⟨o0, o1, o2, o3, of⟩ := hbk.bk.out.facts
  clear hbk HST
  go_wp2_with (go_at_call 39; (with_reducible refine (HCK.out _).mono ?_); rintro e w1 ⟨rfl, hb1⟩; have HK := hid (HK.out.below hb1); clear hb1; clear m0 m1 m2 m3 m4 d0 d1 d2 d3 df o0 o1 o2 o3 of; obtain ⟨m0, m1, m2, m3, m4, _⟩ := HK.out.map.facts; obtain ⟨d0, d1, d2, d3, df⟩ := HK.out.bk.box.facts; obtain ⟨o0, o1, o2, o3, of⟩ := HK.out.bk.out.facts)
  refine bodyPost_ret (v := (BD.mk hk hs hx hp).v) (by simp [results, Try.results14, go_sem, o0, o1, o2, o3, of]) rfl ?_
  exact HK.out.bk.done HOLD.out _ _ rfl rfl rfl _ _ _ _

set_option maxRecDepth 100000 in
set_option maxHeartbeats 4000000 in
theorem rstep_own0 (m : PM) (h : BD) (w : World) (B b : Nat) (vw : Value) (s : MS) (hm : Ref w B b vw s) (ho : m.Ok) (hkv : h.k = 1) (hsv : h.s = 0) :
    Calls Try.prog 14 #[m.v, .pointer (some ⟨b, 0, none⟩), h.v] w (BumpRet 68 2 ⟨h.k, 9, h.x, wrap64 (s.vAt (m.at_ 0 0 0) + 1)⟩ (s.added (m.at_ 0 0 0) 1) B b vw w) := by
  have HST := hid (MkAt.start 38 36 68 2 m h hm)
  have HOLD := hid hm.young
  have HCK := hid (fun (x : World) => refClock_any m x)
  have hp0 : decide (m.at_ 0 0 0 < 0) = false := decide_eq_false (by have := (clock_in ho).1; omega)
  have HMO := hid (fun (x : World) (hb : Ref x B b vw s) => rAdd_at (m.at_ 0 0 0) 1 x B b vw s hb)
  clear hm ho
  generalize s.added (m.at_ 0 0 0) 1 = s2 at *
  generalize s.eAt (m.at_ 0 0 0) = ee at *
  generalize s.vAt (m.at_ 0 0 0) = y at *
  generalize m.at_ 0 0 0 = p0 at *
  obtain ⟨s1, ml, mt, c, d⟩ := m
  obtain ⟨hk, hs, hx, hp⟩ := h
  simp only at hkv hsv
  subst hkv hsv
  show Calls _ _ #[.agg #[.int .i64 s1, .int .i64 ml, .int .i64 mt, .int .i64 c, .int .i64 d], _, .agg #[.int .i64 1, .int .i64 0, .int .i64 hx, .int .i64 hp]] _ _
  go_enter Try.func14, Try.ntmps14
  go_upto_region 1 with fail
  refine wp_rename _ HST.out ?_
  intro W hbk
  have HK := hid hbk
  obtain ⟨m0, m1, m2, m3, m4, _⟩ := hbk.map.facts
  obtain ⟨d0, d1, d2, d3, df⟩ := hbk.bk.box.facts
  obtain ⟨o0, o1, o2, o3, of⟩ := hbk.bk.out.facts
  clear hbk HST
  go_wp2_with (first | (go_at_call 39; (with_reducible refine (HCK.out _).mono ?_); rintro e w1 ⟨rfl, hb1⟩; have HK := hid (HK.out.below hb1); clear hb1; clear m0 m1 m2 m3 m4 d0 d1 d2 d3 df o0 o1 o2 o3 of; obtain ⟨m0, m1, m2, m3, m4, _⟩ := HK.out.map.facts; obtain ⟨d0, d1, d2, d3, df⟩ := HK.out.bk.box.facts; obtain ⟨o0, o1, o2, o3, of⟩ := HK.out.bk.out.facts) | (go_at_call 41; (with_reducible refine (HMO.out _ HK.out.mem).mono ?_); rintro e w4 ⟨rfl, hm4, hw4⟩; have HK := hid (HK.out.next hm4 hw4 HOLD.out); clear hm4 hw4; clear m0 m1 m2 m3 m4 d0 d1 d2 d3 df o0 o1 o2 o3 of; obtain ⟨m0, m1, m2, m3, m4, _⟩ := HK.out.map.facts; obtain ⟨d0, d1, d2, d3, df⟩ := HK.out.bk.box.facts; obtain ⟨o0, o1, o2, o3, of⟩ := HK.out.bk.out.facts))
  refine bodyPost_ret (v := (BD.mk 1 9 hx (wrap64 (y + 1))).v) (by simp [results, Try.results14, go_sem, o0, o1, o2, o3, of]) rfl ?_
  exact ((HK.out.setP HOLD.out (wrap64 (y + 1))).setS HOLD.out 9).bk.done HOLD.out _ _ rfl rfl rfl _ _ _ _

set_option maxRecDepth 100000 in
set_option maxHeartbeats 4000000 in
theorem rstep_ownq (m : PM) (h : BD) (w : World) (B b : Nat) (vw : Value) (s : MS) (hm : Ref w B b vw s) (ho : m.Ok) (hkv : h.k = 1) (q0 : ¬ h.s = 0) :
    Calls Try.prog 14 #[m.v, .pointer (some ⟨b, 0, none⟩), h.v] w (BumpRet 68 2 h s B b vw w) := by
  have HST := hid (MkAt.start 38 36 68 2 m h hm)
  have HOLD := hid hm.young
  have HCK := hid (fun (x : World) => refClock_any m x)
  have hp0 : decide (m.at_ 0 0 0 < 0) = false := decide_eq_false (by have := (clock_in ho).1; omega)
  clear hm ho
  generalize m.at_ 0 0 0 = p0 at *
  obtain ⟨s1, ml, mt, c, d⟩ := m
  obtain ⟨hk, hs, hx, hp⟩ := h
  simp only at hkv q0
  subst hkv
  show Calls _ _ #[.agg #[.int .i64 s1, .int .i64 ml, .int .i64 mt, .int .i64 c, .int .i64 d], _, .agg #[.int .i64 1, .int .i64 hs, .int .i64 hx, .int .i64 hp]] _ _
  go_enter Try.func14, Try.ntmps14
  go_upto_region 1 with fail
  refine wp_rename _ HST.out ?_
  intro W hbk
  have HK := hid hbk
  obtain ⟨m0, m1, m2, m3, m4, _⟩ := hbk.map.facts
  obtain ⟨d0, d1, d2, d3, df⟩ := hbk.bk.box.facts
  obtain ⟨o0, o1, o2, o3, of⟩ := hbk.bk.out.facts
  clear hbk HST
  go_wp2_with (go_at_call 39; (with_reducible refine (HCK.out _).mono ?_); rintro e w1 ⟨rfl, hb1⟩; have HK := hid (HK.out.below hb1); clear hb1; clear m0 m1 m2 m3 m4 d0 d1 d2 d3 df o0 o1 o2 o3 of; obtain ⟨m0, m1, m2, m3, m4, _⟩ := HK.out.map.facts; obtain ⟨d0, d1, d2, d3, df⟩ := HK.out.bk.box.facts; obtain ⟨o0, o1, o2, o3, of⟩ := HK.out.bk.out.facts)
  refine bodyPost_ret (v := (BD.mk 1 hs hx hp).v) (by simp [results, Try.results14, go_sem, o0, o1, o2, o3, of]) rfl ?_
  exact HK.out.bk.done HOLD.out _ _ rfl rfl rfl _ _ _ _

set_option maxRecDepth 100000 in
set_option maxHeartbeats 4000000 in
theorem rstep_join0 (m : PM) (h : BD) (w : World) (B b : Nat) (vw : Value) (s : MS) (hm : Ref w B b vw s) (ho : m.Ok) (hkv : h.k = 2) (hsv : h.s = 0) :
    Calls Try.prog 14 #[m.v, .pointer (some ⟨b, 0, none⟩), h.v] w (BumpRet 68 2 ⟨h.k, 1, s.vAt (m.at_ 0 0 0), h.p⟩ (s.loaded (m.at_ 0 0 0)) B b vw w) := by
  have HST := hid (MkAt.start 38 36 68 2 m h hm)
  have HOLD := hid hm.young
  have HCK := hid (fun (x : World) => refClock_any m x)
  have hp0 : decide (m.at_ 0 0 0 < 0) = false := decide_eq_false (by have := (clock_in ho).1; omega)
  have HMO := hid (fun (x : World) (hb : Ref x B b vw s) => rLoad_at (m.at_ 0 0 0) x B b vw s hb)
  clear hm ho
  generalize s.loaded (m.at_ 0 0 0) = s2 at *
  generalize s.eAt (m.at_ 0 0 0) = ee at *
  generalize s.vAt (m.at_ 0 0 0) = y at *
  generalize m.at_ 0 0 0 = p0 at *
  obtain ⟨s1, ml, mt, c, d⟩ := m
  obtain ⟨hk, hs, hx, hp⟩ := h
  simp only at hkv hsv
  subst hkv hsv
  show Calls _ _ #[.agg #[.int .i64 s1, .int .i64 ml, .int .i64 mt, .int .i64 c, .int .i64 d], _, .agg #[.int .i64 2, .int .i64 0, .int .i64 hx, .int .i64 hp]] _ _
  go_enter Try.func14, Try.ntmps14
  go_upto_region 1 with fail
  refine wp_rename _ HST.out ?_
  intro W hbk
  have HK := hid hbk
  obtain ⟨m0, m1, m2, m3, m4, _⟩ := hbk.map.facts
  obtain ⟨d0, d1, d2, d3, df⟩ := hbk.bk.box.facts
  obtain ⟨o0, o1, o2, o3, of⟩ := hbk.bk.out.facts
  clear hbk HST
  go_wp2_with (first | (go_at_call 39; (with_reducible refine (HCK.out _).mono ?_); rintro e w1 ⟨rfl, hb1⟩; have HK := hid (HK.out.below hb1); clear hb1; clear m0 m1 m2 m3 m4 d0 d1 d2 d3 df o0 o1 o2 o3 of; obtain ⟨m0, m1, m2, m3, m4, _⟩ := HK.out.map.facts; obtain ⟨d0, d1, d2, d3, df⟩ := HK.out.bk.box.facts; obtain ⟨o0, o1, o2, o3, of⟩ := HK.out.bk.out.facts) | (go_at_call 42; (with_reducible refine (HMO.out _ HK.out.mem).mono ?_); rintro e w4 ⟨rfl, hm4, hw4⟩; have HK := hid (HK.out.next hm4 hw4 HOLD.out); clear hm4 hw4; clear m0 m1 m2 m3 m4 d0 d1 d2 d3 df o0 o1 o2 o3 of; obtain ⟨m0, m1, m2, m3, m4, _⟩ := HK.out.map.facts; obtain ⟨d0, d1, d2, d3, df⟩ := HK.out.bk.box.facts; obtain ⟨o0, o1, o2, o3, of⟩ := HK.out.bk.out.facts))
  refine bodyPost_ret (v := (BD.mk 2 1 y hp).v) (by simp [results, Try.results14, go_sem, o0, o1, o2, o3, of]) rfl ?_
  exact ((HK.out.setX HOLD.out y).setS HOLD.out 1).bk.done HOLD.out _ _ rfl rfl rfl _ _ _ _

set_option maxRecDepth 100000 in
set_option maxHeartbeats 4000000 in
theorem rstep_even0o (m : PM) (h : BD) (w : World) (B b : Nat) (vw : Value) (s : MS) (hm : Ref w B b vw s) (ho : m.Ok) (hkv : h.k = 3) (hsv : h.s = 0) (hy : s.vAt (m.at_ 1 0 0) % 2 = 1) :
    Calls Try.prog 14 #[m.v, .pointer (some ⟨b, 0, none⟩), h.v] w (BumpRet 68 2 h (s.loaded (m.at_ 1 0 0)) B b vw w) := by
  have HST := hid (MkAt.start 38 36 68 2 m h hm)
  have HOLD := hid hm.young
  have HCK := hid (fun (x : World) => refClock_any m x)
  have HSQ := hid (fun (x : World) => refSeq_any m x)
  have hp1 : decide (m.at_ 1 0 0 < 0) = false := decide_eq_false (by have := (seq_in ho).1; omega)
  have HMO := hid (fun (x : World) (hb : Ref x B b vw s) => rLoad_at (m.at_ 1 0 0) x B b vw s hb)
  clear hm ho
  generalize s.loaded (m.at_ 1 0 0) = s2 at *
  generalize s.eAt (m.at_ 1 0 0) = ee at *
  generalize s.vAt (m.at_ 1 0 0) = y at *
  generalize m.at_ 0 0 0 = p0 at *
  generalize m.at_ 1 0 0 = p1 at *
  obtain ⟨s1, ml, mt, c, d⟩ := m
  obtain ⟨hk, hs, hx, hp⟩ := h
  simp only at hkv hsv
  subst hkv hsv
  show Calls _ _ #[.agg #[.int .i64 s1, .int .i64 ml, .int .i64 mt, .int .i64 c, .int .i64 d], _, .agg #[.int .i64 3, .int .i64 0, .int .i64 hx, .int .i64 hp]] _ _
  go_enter Try.func14, Try.ntmps14
  go_upto_region 1 with fail
  refine wp_rename _ HST.out ?_
  intro W hbk
  have HK := hid hbk
  obtain ⟨m0, m1, m2, m3, m4, _⟩ := hbk.map.facts
  obtain ⟨d0, d1, d2, d3, df⟩ := hbk.bk.box.facts
  obtain ⟨o0, o1, o2, o3, of⟩ := hbk.bk.out.facts
  clear hbk HST
  go_wp2_with (first | (go_at_call 39; (with_reducible refine (HCK.out _).mono ?_); rintro e w1 ⟨rfl, hb1⟩; have HK := hid (HK.out.below hb1); clear hb1; clear m0 m1 m2 m3 m4 d0 d1 d2 d3 df o0 o1 o2 o3 of; obtain ⟨m0, m1, m2, m3, m4, _⟩ := HK.out.map.facts; obtain ⟨d0, d1, d2, d3, df⟩ := HK.out.bk.box.facts; obtain ⟨o0, o1, o2, o3, of⟩ := HK.out.bk.out.facts) | (go_at_call 40; (with_reducible refine (HSQ.out _).mono ?_); rintro e w2 ⟨rfl, hb2⟩; have HK := hid (HK.out.below hb2); clear hb2; clear m0 m1 m2 m3 m4 d0 d1 d2 d3 df o0 o1 o2 o3 of; obtain ⟨m0, m1, m2, m3, m4, _⟩ := HK.out.map.facts; obtain ⟨d0, d1, d2, d3, df⟩ := HK.out.bk.box.facts; obtain ⟨o0, o1, o2, o3, of⟩ := HK.out.bk.out.facts) | (go_at_call 42; (with_reducible refine (HMO.out _ HK.out.mem).mono ?_); rintro e w4 ⟨rfl, hm4, hw4⟩; have HK := hid (HK.out.next hm4 hw4 HOLD.out); clear hm4 hw4; clear m0 m1 m2 m3 m4 d0 d1 d2 d3 df o0 o1 o2 o3 of; obtain ⟨m0, m1, m2, m3, m4, _⟩ := HK.out.map.facts; obtain ⟨d0, d1, d2, d3, df⟩ := HK.out.bk.box.facts; obtain ⟨o0, o1, o2, o3, of⟩ := HK.out.bk.out.facts))
  refine bodyPost_ret (v := (BD.mk 3 0 hx hp).v) (by simp [results, Try.results14, go_sem, o0, o1, o2, o3, of]) rfl ?_
  exact HK.out.bk.done HOLD.out _ _ rfl rfl rfl _ _ _ _

set_option maxRecDepth 100000 in
set_option maxHeartbeats 4000000 in
theorem rstep_even0 (m : PM) (h : BD) (w : World) (B b : Nat) (vw : Value) (s : MS) (hm : Ref w B b vw s) (ho : m.Ok) (hkv : h.k = 3) (hsv : h.s = 0) (hy : s.vAt (m.at_ 1 0 0) % 2 = 0) :
    Calls Try.prog 14 #[m.v, .pointer (some ⟨b, 0, none⟩), h.v] w (BumpRet 68 2 ⟨h.k, 1, s.vAt (m.at_ 1 0 0), h.p⟩ (s.loaded (m.at_ 1 0 0)) B b vw w) := by
  have HST := hid (MkAt.start 38 36 68 2 m h hm)
  have HOLD := hid hm.young
  have HCK := hid (fun (x : World) => refClock_any m x)
  have HSQ := hid (fun (x : World) => refSeq_any m x)
  have hp1 : decide (m.at_ 1 0 0 < 0) = false := decide_eq_false (by have := (seq_in ho).1; omega)
  have HMO := hid (fun (x : World) (hb : Ref x B b vw s) => rLoad_at (m.at_ 1 0 0) x B b vw s hb)
  clear hm ho
  generalize s.loaded (m.at_ 1 0 0) = s2 at *
  generalize s.eAt (m.at_ 1 0 0) = ee at *
  generalize s.vAt (m.at_ 1 0 0) = y at *
  generalize m.at_ 0 0 0 = p0 at *
  generalize m.at_ 1 0 0 = p1 at *
  obtain ⟨s1, ml, mt, c, d⟩ := m
  obtain ⟨hk, hs, hx, hp⟩ := h
  simp only at hkv hsv
  subst hkv hsv
  show Calls _ _ #[.agg #[.int .i64 s1, .int .i64 ml, .int .i64 mt, .int .i64 c, .int .i64 d], _, .agg #[.int .i64 3, .int .i64 0, .int .i64 hx, .int .i64 hp]] _ _
  go_enter Try.func14, Try.ntmps14
  go_upto_region 1 with fail
  refine wp_rename _ HST.out ?_
  intro W hbk
  have HK := hid hbk
  obtain ⟨m0, m1, m2, m3, m4, _⟩ := hbk.map.facts
  obtain ⟨d0, d1, d2, d3, df⟩ := hbk.bk.box.facts
  obtain ⟨o0, o1, o2, o3, of⟩ := hbk.bk.out.facts
  clear hbk HST
  go_wp2_with (first | (go_at_call 39; (with_reducible refine (HCK.out _).mono ?_); rintro e w1 ⟨rfl, hb1⟩; have HK := hid (HK.out.below hb1); clear hb1; clear m0 m1 m2 m3 m4 d0 d1 d2 d3 df o0 o1 o2 o3 of; obtain ⟨m0, m1, m2, m3, m4, _⟩ := HK.out.map.facts; obtain ⟨d0, d1, d2, d3, df⟩ := HK.out.bk.box.facts; obtain ⟨o0, o1, o2, o3, of⟩ := HK.out.bk.out.facts) | (go_at_call 40; (with_reducible refine (HSQ.out _).mono ?_); rintro e w2 ⟨rfl, hb2⟩; have HK := hid (HK.out.below hb2); clear hb2; clear m0 m1 m2 m3 m4 d0 d1 d2 d3 df o0 o1 o2 o3 of; obtain ⟨m0, m1, m2, m3, m4, _⟩ := HK.out.map.facts; obtain ⟨d0, d1, d2, d3, df⟩ := HK.out.bk.box.facts; obtain ⟨o0, o1, o2, o3, of⟩ := HK.out.bk.out.facts) | (go_at_call 42; (with_reducible refine (HMO.out _ HK.out.mem).mono ?_); rintro e w4 ⟨rfl, hm4, hw4⟩; have HK := hid (HK.out.next hm4 hw4 HOLD.out); clear hm4 hw4; clear m0 m1 m2 m3 m4 d0 d1 d2 d3 df o0 o1 o2 o3 of; obtain ⟨m0, m1, m2, m3, m4, _⟩ := HK.out.map.facts; obtain ⟨d0, d1, d2, d3, df⟩ := HK.out.bk.box.facts; obtain ⟨o0, o1, o2, o3, of⟩ := HK.out.bk.out.facts))
  refine bodyPost_ret (v := (BD.mk 3 1 y hp).v) (by simp [results, Try.results14, go_sem, o0, o1, o2, o3, of]) rfl ?_
  exact ((HK.out.setX HOLD.out y).setS HOLD.out 1).bk.done HOLD.out _ _ rfl rfl rfl _ _ _ _

set_option maxRecDepth 100000 in
set_option maxHeartbeats 4000000 in
theorem rstep_join1y (m : PM) (h : BD) (w : World) (B b : Nat) (vw : Value) (s : MS) (hm : Ref w B b vw s) (ho : m.Ok) (hkv : h.k = 2) (hsv : h.s = 1) (hok : s.okAt (m.at_ 0 0 0) h.x = true) :
    Calls Try.prog 14 #[m.v, .pointer (some ⟨b, 0, none⟩), h.v] w (BumpRet 68 2 ⟨h.k, 9, h.x, wrap64 (h.x + 1)⟩ (s.swapped (m.at_ 0 0 0) h.x (wrap64 (h.x + 1))) B b vw w) := by
  have HST := hid (MkAt.start 38 36 68 2 m h hm)
  have HOLD := hid hm.young
  have HCK := hid (fun (x : World) => refClock_any m x)
  have hp0 : decide (m.at_ 0 0 0 < 0) = false := decide_eq_false (by have := (clock_in ho).1; omega)
  have HMO := hid (fun (x : World) (hb : Ref x B b vw s) => rSwap_at (m.at_ 0 0 0) h.x (wrap64 (h.x + 1)) x B b vw s hb)
  clear hm ho
  generalize s.swapped (m.at_ 0 0 0) h.x (wrap64 (h.x + 1)) = s2 at *
  generalize s.okAt (m.at_ 0 0 0) h.x = ok at *
  generalize s.eAt (m.at_ 0 0 0) = ee at *
  generalize s.vAt (m.at_ 0 0 0) = y at *
  subst hok
  generalize m.at_ 0 0 0 = p0 at *
  obtain ⟨s1, ml, mt, c, d⟩ := m
  obtain ⟨hk, hs, hx, hp⟩ := h
  simp only at hkv hsv
  subst hkv hsv
  show Calls _ _ #[.agg #[.int .i64 s1, .int .i64 ml, .int .i64 mt, .int .i64 c, .int .i64 d], _, .agg #[.int .i64 2, .int .i64 1, .int .i64 hx, .int .i64 hp]] _ _
  go_enter Try.func14, Try.ntmps14
  go_upto_region 1 with fail
  refine wp_rename _ HST.out ?_
  intro W hbk
  have HK := hid hbk
  obtain ⟨m0, m1, m2, m3, m4, _⟩ := hbk.map.facts
  obtain ⟨d0, d1, d2, d3, df⟩ := hbk.bk.box.facts
  obtain ⟨o0, o1, o2, o3, of⟩ := hbk.bk.out.facts
  clear hbk HST
  go_wp2_with (first | (go_at_call 39; (with_reducible refine (HCK.out _).mono ?_); rintro e w1 ⟨rfl, hb1⟩; have HK := hid (HK.out.below hb1); clear hb1; clear m0 m1 m2 m3 m4 d0 d1 d2 d3 df o0 o1 o2 o3 of; obtain ⟨m0, m1, m2, m3, m4, _⟩ := HK.out.map.facts; obtain ⟨d0, d1, d2, d3, df⟩ := HK.out.bk.box.facts; obtain ⟨o0, o1, o2, o3, of⟩ := HK.out.bk.out.facts) | (go_at_call 43; (with_reducible refine (HMO.out _ HK.out.mem).mono ?_); rintro e w4 ⟨rfl, hm4, hw4⟩; have HK := hid (HK.out.next hm4 hw4 HOLD.out); clear hm4 hw4; clear m0 m1 m2 m3 m4 d0 d1 d2 d3 df o0 o1 o2 o3 of; obtain ⟨m0, m1, m2, m3, m4, _⟩ := HK.out.map.facts; obtain ⟨d0, d1, d2, d3, df⟩ := HK.out.bk.box.facts; obtain ⟨o0, o1, o2, o3, of⟩ := HK.out.bk.out.facts))
  refine bodyPost_ret (v := (BD.mk 2 9 hx (wrap64 (hx + 1))).v) (by simp [results, Try.results14, go_sem, o0, o1, o2, o3, of]) rfl ?_
  exact (((HK.out.setP HOLD.out y).setS HOLD.out 9).setP HOLD.out (wrap64 (hx + 1))).bk.done HOLD.out _ _ rfl rfl rfl _ _ _ _

set_option maxRecDepth 100000 in
set_option maxHeartbeats 4000000 in
theorem rstep_join1n (m : PM) (h : BD) (w : World) (B b : Nat) (vw : Value) (s : MS) (hm : Ref w B b vw s) (ho : m.Ok) (hkv : h.k = 2) (hsv : h.s = 1) (hok : ¬ s.okAt (m.at_ 0 0 0) h.x = true) :
    Calls Try.prog 14 #[m.v, .pointer (some ⟨b, 0, none⟩), h.v] w (BumpRet 68 2 ⟨h.k, 9, h.x, s.vAt (m.at_ 0 0 0)⟩ (s.swapped (m.at_ 0 0 0) h.x (wrap64 (h.x + 1))) B b vw w) := by
  have HST := hid (MkAt.start 38 36 68 2 m h hm)
  have HOLD := hid hm.young
  have HCK := hid (fun (x : World) => refClock_any m x)
  have hp0 : decide (m.at_ 0 0 0 < 0) = false := decide_eq_false (by have := (clock_in ho).1; omega)
  have HMO := hid (fun (x : World) (hb : Ref x B b vw s) => rSwap_at (m.at_ 0 0 0) h.x (wrap64 (h.x + 1)) x B b vw s hb)
  clear hm ho
  generalize s.swapped (m.at_ 0 0 0) h.x (wrap64 (h.x + 1)) = s2 at *
  generalize s.okAt (m.at_ 0 0 0) h.x = ok at *
  generalize s.eAt (m.at_ 0 0 0) = ee at *
  generalize s.vAt (m.at_ 0 0 0) = y at *
  have hok2 : ok = false := by simpa using hok
  subst hok2
  clear hok
  generalize m.at_ 0 0 0 = p0 at *
  obtain ⟨s1, ml, mt, c, d⟩ := m
  obtain ⟨hk, hs, hx, hp⟩ := h
  simp only at hkv hsv
  subst hkv hsv
  show Calls _ _ #[.agg #[.int .i64 s1, .int .i64 ml, .int .i64 mt, .int .i64 c, .int .i64 d], _, .agg #[.int .i64 2, .int .i64 1, .int .i64 hx, .int .i64 hp]] _ _
  go_enter Try.func14, Try.ntmps14
  go_upto_region 1 with fail
  refine wp_rename _ HST.out ?_
  intro W hbk
  have HK := hid hbk
  obtain ⟨m0, m1, m2, m3, m4, _⟩ := hbk.map.facts
  obtain ⟨d0, d1, d2, d3, df⟩ := hbk.bk.box.facts
  obtain ⟨o0, o1, o2, o3, of⟩ := hbk.bk.out.facts
  clear hbk HST
  go_wp2_with (first | (go_at_call 39; (with_reducible refine (HCK.out _).mono ?_); rintro e w1 ⟨rfl, hb1⟩; have HK := hid (HK.out.below hb1); clear hb1; clear m0 m1 m2 m3 m4 d0 d1 d2 d3 df o0 o1 o2 o3 of; obtain ⟨m0, m1, m2, m3, m4, _⟩ := HK.out.map.facts; obtain ⟨d0, d1, d2, d3, df⟩ := HK.out.bk.box.facts; obtain ⟨o0, o1, o2, o3, of⟩ := HK.out.bk.out.facts) | (go_at_call 43; (with_reducible refine (HMO.out _ HK.out.mem).mono ?_); rintro e w4 ⟨rfl, hm4, hw4⟩; have HK := hid (HK.out.next hm4 hw4 HOLD.out); clear hm4 hw4; clear m0 m1 m2 m3 m4 d0 d1 d2 d3 df o0 o1 o2 o3 of; obtain ⟨m0, m1, m2, m3, m4, _⟩ := HK.out.map.facts; obtain ⟨d0, d1, d2, d3, df⟩ := HK.out.bk.box.facts; obtain ⟨o0, o1, o2, o3, of⟩ := HK.out.bk.out.facts))
  refine bodyPost_ret (v := (BD.mk 2 9 hx y).v) (by simp [results, Try.results14, go_sem, o0, o1, o2, o3, of]) rfl ?_
  exact ((HK.out.setP HOLD.out y).setS HOLD.out 9).bk.done HOLD.out _ _ rfl rfl rfl _ _ _ _

set_option maxRecDepth 100000 in
set_option maxHeartbeats 4000000 in
theorem rstep_joinq (m : PM) (h : BD) (w : World) (B b : Nat) (vw : Value) (s : MS) (hm : Ref w B b vw s) (ho : m.Ok) (hkv : h.k = 2) (q0 : ¬ h.s = 0) (q1 : ¬ h.s = 1) :
    Calls Try.prog 14 #[m.v, .pointer (some ⟨b, 0, none⟩), h.v] w (BumpRet 68 2 h s B b vw w) := by
  have HST := hid (MkAt.start 38 36 68 2 m h hm)
  have HOLD := hid hm.young
  have HCK := hid (fun (x : World) => refClock_any m x)
  have hp0 : decide (m.at_ 0 0 0 < 0) = false := decide_eq_false (by have := (clock_in ho).1; omega)
  clear hm ho
  generalize m.at_ 0 0 0 = p0 at *
  obtain ⟨s1, ml, mt, c, d⟩ := m
  obtain ⟨hk, hs, hx, hp⟩ := h
  simp only at hkv q0 q1
  subst hkv
  show Calls _ _ #[.agg #[.int .i64 s1, .int .i64 ml, .int .i64 mt, .int .i64 c, .int .i64 d], _, .agg #[.int .i64 2, .int .i64 hs, .int .i64 hx, .int .i64 hp]] _ _
  go_enter Try.func14, Try.ntmps14
  go_upto_region 1 with fail
  refine wp_rename _ HST.out ?_
  intro W hbk
  have HK := hid hbk
  obtain ⟨m0, m1, m2, m3, m4, _⟩ := hbk.map.facts
  obtain ⟨d0, d1, d2, d3, df⟩ := hbk.bk.box.facts
  obtain ⟨o0, o1, o2, o3, of⟩ := hbk.bk.out.facts
  clear hbk HST
  go_wp2_with (go_at_call 39; (with_reducible refine (HCK.out _).mono ?_); rintro e w1 ⟨rfl, hb1⟩; have HK := hid (HK.out.below hb1); clear hb1; clear m0 m1 m2 m3 m4 d0 d1 d2 d3 df o0 o1 o2 o3 of; obtain ⟨m0, m1, m2, m3, m4, _⟩ := HK.out.map.facts; obtain ⟨d0, d1, d2, d3, df⟩ := HK.out.bk.box.facts; obtain ⟨o0, o1, o2, o3, of⟩ := HK.out.bk.out.facts)
  refine bodyPost_ret (v := (BD.mk 2 hs hx hp).v) (by simp [results, Try.results14, go_sem, o0, o1, o2, o3, of]) rfl ?_
  exact HK.out.bk.done HOLD.out _ _ rfl rfl rfl _ _ _ _

set_option maxRecDepth 100000 in
set_option maxHeartbeats 4000000 in
theorem rstep_even1y (m : PM) (h : BD) (w : World) (B b : Nat) (vw : Value) (s : MS) (hm : Ref w B b vw s) (ho : m.Ok) (hkv : h.k = 3) (hsv : h.s = 1) (hok : s.okAt (m.at_ 1 0 0) h.x = true) :
    Calls Try.prog 14 #[m.v, .pointer (some ⟨b, 0, none⟩), h.v] w (BumpRet 68 2 ⟨h.k, 9, h.x, wrap64 (h.x + 2)⟩ (s.swapped (m.at_ 1 0 0) h.x (wrap64 (h.x + 2))) B b vw w) := by
  have HST := hid (MkAt.start 38 36 68 2 m h hm)
  have HOLD := hid hm.young
  have HCK := hid (fun (x : World) => refClock_any m x)
  have HSQ := hid (fun (x : World) => refSeq_any m x)
  have hp1 : decide (m.at_ 1 0 0 < 0) = false := decide_eq_false (by have := (seq_in ho).1; omega)
  have HMO := hid (fun (x : World) (hb : Ref x B b vw s) => rSwap_at (m.at_ 1 0 0) h.x (wrap64 (h.x + 2)) x B b vw s hb)
  clear hm ho
  generalize s.swapped (m.at_ 1 0 0) h.x (wrap64 (h.x + 2)) = s2 at *
  generalize s.okAt (m.at_ 1 0 0) h.x = ok at *
  generalize s.eAt (m.at_ 1 0 0) = ee at *
  generalize s.vAt (m.at_ 1 0 0) = y at *
  subst hok
  generalize m.at_ 0 0 0 = p0 at *
  generalize m.at_ 1 0 0 = p1 at *
  obtain ⟨s1, ml, mt, c, d⟩ := m
  obtain ⟨hk, hs, hx, hp⟩ := h
  simp only at hkv hsv
  subst hkv hsv
  show Calls _ _ #[.agg #[.int .i64 s1, .int .i64 ml, .int .i64 mt, .int .i64 c, .int .i64 d], _, .agg #[.int .i64 3, .int .i64 1, .int .i64 hx, .int .i64 hp]] _ _
  go_enter Try.func14, Try.ntmps14
  go_upto_region 1 with fail
  refine wp_rename _ HST.out ?_
  intro W hbk
  have HK := hid hbk
  obtain ⟨m0, m1, m2, m3, m4, _⟩ := hbk.map.facts
  obtain ⟨d0, d1, d2, d3, df⟩ := hbk.bk.box.facts
  obtain ⟨o0, o1, o2, o3, of⟩ := hbk.bk.out.facts
  clear hbk HST
  go_wp2_with (first | (go_at_call 39; (with_reducible refine (HCK.out _).mono ?_); rintro e w1 ⟨rfl, hb1⟩; have HK := hid (HK.out.below hb1); clear hb1; clear m0 m1 m2 m3 m4 d0 d1 d2 d3 df o0 o1 o2 o3 of; obtain ⟨m0, m1, m2, m3, m4, _⟩ := HK.out.map.facts; obtain ⟨d0, d1, d2, d3, df⟩ := HK.out.bk.box.facts; obtain ⟨o0, o1, o2, o3, of⟩ := HK.out.bk.out.facts) | (go_at_call 40; (with_reducible refine (HSQ.out _).mono ?_); rintro e w2 ⟨rfl, hb2⟩; have HK := hid (HK.out.below hb2); clear hb2; clear m0 m1 m2 m3 m4 d0 d1 d2 d3 df o0 o1 o2 o3 of; obtain ⟨m0, m1, m2, m3, m4, _⟩ := HK.out.map.facts; obtain ⟨d0, d1, d2, d3, df⟩ := HK.out.bk.box.facts; obtain ⟨o0, o1, o2, o3, of⟩ := HK.out.bk.out.facts) | (go_at_call 43; (with_reducible refine (HMO.out _ HK.out.mem).mono ?_); rintro e w4 ⟨rfl, hm4, hw4⟩; have HK := hid (HK.out.next hm4 hw4 HOLD.out); clear hm4 hw4; clear m0 m1 m2 m3 m4 d0 d1 d2 d3 df o0 o1 o2 o3 of; obtain ⟨m0, m1, m2, m3, m4, _⟩ := HK.out.map.facts; obtain ⟨d0, d1, d2, d3, df⟩ := HK.out.bk.box.facts; obtain ⟨o0, o1, o2, o3, of⟩ := HK.out.bk.out.facts))
  refine bodyPost_ret (v := (BD.mk 3 9 hx (wrap64 (hx + 2))).v) (by simp [results, Try.results14, go_sem, o0, o1, o2, o3, of]) rfl ?_
  exact ((HK.out.setP HOLD.out (wrap64 (hx + 2))).setS HOLD.out 9).bk.done HOLD.out _ _ rfl rfl rfl _ _ _ _

set_option maxRecDepth 100000 in
set_option maxHeartbeats 4000000 in
theorem rstep_even1n (m : PM) (h : BD) (w : World) (B b : Nat) (vw : Value) (s : MS) (hm : Ref w B b vw s) (ho : m.Ok) (hkv : h.k = 3) (hsv : h.s = 1) (hok : ¬ s.okAt (m.at_ 1 0 0) h.x = true) :
    Calls Try.prog 14 #[m.v, .pointer (some ⟨b, 0, none⟩), h.v] w (BumpRet 68 2 ⟨h.k, 0, 0, h.p⟩ (s.swapped (m.at_ 1 0 0) h.x (wrap64 (h.x + 2))) B b vw w) := by
  have HST := hid (MkAt.start 38 36 68 2 m h hm)
  have HOLD := hid hm.young
  have HCK := hid (fun (x : World) => refClock_any m x)
  have HSQ := hid (fun (x : World) => refSeq_any m x)
  have hp1 : decide (m.at_ 1 0 0 < 0) = false := decide_eq_false (by have := (seq_in ho).1; omega)
  have HMO := hid (fun (x : World) (hb : Ref x B b vw s) => rSwap_at (m.at_ 1 0 0) h.x (wrap64 (h.x + 2)) x B b vw s hb)
  clear hm ho
  generalize s.swapped (m.at_ 1 0 0) h.x (wrap64 (h.x + 2)) = s2 at *
  generalize s.okAt (m.at_ 1 0 0) h.x = ok at *
  generalize s.eAt (m.at_ 1 0 0) = ee at *
  generalize s.vAt (m.at_ 1 0 0) = y at *
  have hok2 : ok = false := by simpa using hok
  subst hok2
  clear hok
  generalize m.at_ 0 0 0 = p0 at *
  generalize m.at_ 1 0 0 = p1 at *
  obtain ⟨s1, ml, mt, c, d⟩ := m
  obtain ⟨hk, hs, hx, hp⟩ := h
  simp only at hkv hsv
  subst hkv hsv
  show Calls _ _ #[.agg #[.int .i64 s1, .int .i64 ml, .int .i64 mt, .int .i64 c, .int .i64 d], _, .agg #[.int .i64 3, .int .i64 1, .int .i64 hx, .int .i64 hp]] _ _
  go_enter Try.func14, Try.ntmps14
  go_upto_region 1 with fail
  refine wp_rename _ HST.out ?_
  intro W hbk
  have HK := hid hbk
  obtain ⟨m0, m1, m2, m3, m4, _⟩ := hbk.map.facts
  obtain ⟨d0, d1, d2, d3, df⟩ := hbk.bk.box.facts
  obtain ⟨o0, o1, o2, o3, of⟩ := hbk.bk.out.facts
  clear hbk HST
  go_wp2_with (first | (go_at_call 39; (with_reducible refine (HCK.out _).mono ?_); rintro e w1 ⟨rfl, hb1⟩; have HK := hid (HK.out.below hb1); clear hb1; clear m0 m1 m2 m3 m4 d0 d1 d2 d3 df o0 o1 o2 o3 of; obtain ⟨m0, m1, m2, m3, m4, _⟩ := HK.out.map.facts; obtain ⟨d0, d1, d2, d3, df⟩ := HK.out.bk.box.facts; obtain ⟨o0, o1, o2, o3, of⟩ := HK.out.bk.out.facts) | (go_at_call 40; (with_reducible refine (HSQ.out _).mono ?_); rintro e w2 ⟨rfl, hb2⟩; have HK := hid (HK.out.below hb2); clear hb2; clear m0 m1 m2 m3 m4 d0 d1 d2 d3 df o0 o1 o2 o3 of; obtain ⟨m0, m1, m2, m3, m4, _⟩ := HK.out.map.facts; obtain ⟨d0, d1, d2, d3, df⟩ := HK.out.bk.box.facts; obtain ⟨o0, o1, o2, o3, of⟩ := HK.out.bk.out.facts) | (go_at_call 43; (with_reducible refine (HMO.out _ HK.out.mem).mono ?_); rintro e w4 ⟨rfl, hm4, hw4⟩; have HK := hid (HK.out.next hm4 hw4 HOLD.out); clear hm4 hw4; clear m0 m1 m2 m3 m4 d0 d1 d2 d3 df o0 o1 o2 o3 of; obtain ⟨m0, m1, m2, m3, m4, _⟩ := HK.out.map.facts; obtain ⟨d0, d1, d2, d3, df⟩ := HK.out.bk.box.facts; obtain ⟨o0, o1, o2, o3, of⟩ := HK.out.bk.out.facts))
  refine bodyPost_ret (v := (BD.mk 3 0 0 hp).v) (by simp [results, Try.results14, go_sem, o0, o1, o2, o3, of]) rfl ?_
  exact ((HK.out.setX HOLD.out 0).setS HOLD.out 0).bk.done HOLD.out _ _ rfl rfl rfl _ _ _ _

set_option maxRecDepth 100000 in
set_option maxHeartbeats 4000000 in
theorem rstep_evenq (m : PM) (h : BD) (w : World) (B b : Nat) (vw : Value) (s : MS) (hm : Ref w B b vw s) (ho : m.Ok) (hkv : h.k = 3) (q0 : ¬ h.s = 0) (q1 : ¬ h.s = 1) :
    Calls Try.prog 14 #[m.v, .pointer (some ⟨b, 0, none⟩), h.v] w (BumpRet 68 2 h s B b vw w) := by
  have HST := hid (MkAt.start 38 36 68 2 m h hm)
  have HOLD := hid hm.young
  have HCK := hid (fun (x : World) => refClock_any m x)
  have HSQ := hid (fun (x : World) => refSeq_any m x)
  have hp1 : decide (m.at_ 1 0 0 < 0) = false := decide_eq_false (by have := (seq_in ho).1; omega)
  clear hm ho
  generalize m.at_ 0 0 0 = p0 at *
  generalize m.at_ 1 0 0 = p1 at *
  obtain ⟨s1, ml, mt, c, d⟩ := m
  obtain ⟨hk, hs, hx, hp⟩ := h
  simp only at hkv q0 q1
  subst hkv
  show Calls _ _ #[.agg #[.int .i64 s1, .int .i64 ml, .int .i64 mt, .int .i64 c, .int .i64 d], _, .agg #[.int .i64 3, .int .i64 hs, .int .i64 hx, .int .i64 hp]] _ _
  go_enter Try.func14, Try.ntmps14
  go_upto_region 1 with fail
  refine wp_rename _ HST.out ?_
  intro W hbk
  have HK := hid hbk
  obtain ⟨m0, m1, m2, m3, m4, _⟩ := hbk.map.facts
  obtain ⟨d0, d1, d2, d3, df⟩ := hbk.bk.box.facts
  obtain ⟨o0, o1, o2, o3, of⟩ := hbk.bk.out.facts
  clear hbk HST
  go_wp2_with (first | (go_at_call 39; (with_reducible refine (HCK.out _).mono ?_); rintro e w1 ⟨rfl, hb1⟩; have HK := hid (HK.out.below hb1); clear hb1; clear m0 m1 m2 m3 m4 d0 d1 d2 d3 df o0 o1 o2 o3 of; obtain ⟨m0, m1, m2, m3, m4, _⟩ := HK.out.map.facts; obtain ⟨d0, d1, d2, d3, df⟩ := HK.out.bk.box.facts; obtain ⟨o0, o1, o2, o3, of⟩ := HK.out.bk.out.facts) | (go_at_call 40; (with_reducible refine (HSQ.out _).mono ?_); rintro e w2 ⟨rfl, hb2⟩; have HK := hid (HK.out.below hb2); clear hb2; clear m0 m1 m2 m3 m4 d0 d1 d2 d3 df o0 o1 o2 o3 of; obtain ⟨m0, m1, m2, m3, m4, _⟩ := HK.out.map.facts; obtain ⟨d0, d1, d2, d3, df⟩ := HK.out.bk.box.facts; obtain ⟨o0, o1, o2, o3, of⟩ := HK.out.bk.out.facts))
  refine bodyPost_ret (v := (BD.mk 3 hs hx hp).v) (by simp [results, Try.results14, go_sem, o0, o1, o2, o3, of]) rfl ?_
  exact HK.out.bk.done HOLD.out _ _ rfl rfl rfl _ _ _ _

set_option maxRecDepth 100000 in
set_option maxHeartbeats 4000000 in
theorem rstep_lo (m : PM) (h : BD) (w : World) (B b : Nat) (vw : Value) (s : MS) (hm : Ref w B b vw s) (ho : m.Ok) (q : h.k < 1) :
    Calls Try.prog 14 #[m.v, .pointer (some ⟨b, 0, none⟩), h.v] w (BumpRet 68 2 h s B b vw w) := by
  have HST := hid (MkAt.start 38 36 68 2 m h hm)
  have HOLD := hid hm.young
  have HCK := hid (fun (x : World) => refClock_any m x)
  have hp0 : decide (m.at_ 0 0 0 < 0) = false := decide_eq_false (by have := (clock_in ho).1; omega)
  clear hm ho
  generalize m.at_ 0 0 0 = p0 at *
  obtain ⟨s1, ml, mt, c, d⟩ := m
  obtain ⟨hk, hs, hx, hp⟩ := h
  simp only at q
  have q3 : ¬ hk = 3 := by omega
  show Calls _ _ #[.agg #[.int .i64 s1, .int .i64 ml, .int .i64 mt, .int .i64 c, .int .i64 d], _, .agg #[.int .i64 hk, .int .i64 hs, .int .i64 hx, .int .i64 hp]] _ _
  go_enter Try.func14, Try.ntmps14
  go_upto_region 1 with fail
  refine wp_rename _ HST.out ?_
  intro W hbk
  have HK := hid hbk
  obtain ⟨m0, m1, m2, m3, m4, _⟩ := hbk.map.facts
  obtain ⟨d0, d1, d2, d3, df⟩ := hbk.bk.box.facts
  obtain ⟨o0, o1, o2, o3, of⟩ := hbk.bk.out.facts
  clear hbk HST
  go_wp2_with (go_at_call 39; (with_reducible refine (HCK.out _).mono ?_); rintro e w1 ⟨rfl, hb1⟩; have HK := hid (HK.out.below hb1); clear hb1; clear m0 m1 m2 m3 m4 d0 d1 d2 d3 df o0 o1 o2 o3 of; obtain ⟨m0, m1, m2, m3, m4, _⟩ := HK.out.map.facts; obtain ⟨d0, d1, d2, d3, df⟩ := HK.out.bk.box.facts; obtain ⟨o0, o1, o2, o3, of⟩ := HK.out.bk.out.facts)
  refine bodyPost_ret (v := (BD.mk hk hs hx hp).v) (by simp [results, Try.results14, go_sem, o0, o1, o2, o3, of]) rfl ?_
  exact HK.out.bk.done HOLD.out _ _ rfl rfl rfl _ _ _ _

set_option maxRecDepth 100000 in
set_option maxHeartbeats 4000000 in
theorem rstep_hi (m : PM) (h : BD) (w : World) (B b : Nat) (vw : Value) (s : MS) (hm : Ref w B b vw s) (ho : m.Ok) (q : 3 < h.k) :
    Calls Try.prog 14 #[m.v, .pointer (some ⟨b, 0, none⟩), h.v] w (BumpRet 68 2 h s B b vw w) := by
  have HST := hid (MkAt.start 38 36 68 2 m h hm)
  have HOLD := hid hm.young
  have HCK := hid (fun (x : World) => refClock_any m x)
  have hp0 : decide (m.at_ 0 0 0 < 0) = false := decide_eq_false (by have := (clock_in ho).1; omega)
  clear hm ho
  generalize m.at_ 0 0 0 = p0 at *
  obtain ⟨s1, ml, mt, c, d⟩ := m
  obtain ⟨hk, hs, hx, hp⟩ := h
  simp only at q
  have q3 : ¬ hk = 3 := by omega
  have q4 : ¬ hk < 1 := by omega
  show Calls _ _ #[.agg #[.int .i64 s1, .int .i64 ml, .int .i64 mt, .int .i64 c, .int .i64 d], _, .agg #[.int .i64 hk, .int .i64 hs, .int .i64 hx, .int .i64 hp]] _ _
  go_enter Try.func14, Try.ntmps14
  go_upto_region 1 with fail
  refine wp_rename _ HST.out ?_
  intro W hbk
  have HK := hid hbk
  obtain ⟨m0, m1, m2, m3, m4, _⟩ := hbk.map.facts
  obtain ⟨d0, d1, d2, d3, df⟩ := hbk.bk.box.facts
  obtain ⟨o0, o1, o2, o3, of⟩ := hbk.bk.out.facts
  clear hbk HST
  go_wp2_with (go_at_call 39; (with_reducible refine (HCK.out _).mono ?_); rintro e w1 ⟨rfl, hb1⟩; have HK := hid (HK.out.below hb1); clear hb1; clear m0 m1 m2 m3 m4 d0 d1 d2 d3 df o0 o1 o2 o3 of; obtain ⟨m0, m1, m2, m3, m4, _⟩ := HK.out.map.facts; obtain ⟨d0, d1, d2, d3, df⟩ := HK.out.bk.box.facts; obtain ⟨o0, o1, o2, o3, of⟩ := HK.out.bk.out.facts)
  refine bodyPost_ret (v := (BD.mk hk hs hx hp).v) (by simp [results, Try.results14, go_sem, o0, o1, o2, o3, of]) rfl ?_
  exact HK.out.bk.done HOLD.out _ _ rfl rfl rfl _ _ _ _

theorem StepBump_any (m : PM) (h : BD) (w : World) (B b : Nat) (vw : Value) (s : MS) (hm : Ref w B b vw s) :
    Calls Try.prog 14 #[m.v, .pointer (some ⟨b, 0, none⟩), h.v] w (BumpRet 68 2 (bumpF m s h).1 (bumpF m s h).2 B b vw w) := by
  unfold bumpF
  by_cases ho : m.Ok
  · rw [if_pos ho]
    by_cases k1 : h.k = 1
    · rw [if_pos k1]
      unfold drawF
      by_cases s0 : h.s = 0
      · rw [if_pos s0]; exact rstep_own0 m h w B b vw s hm ho k1 s0
      · rw [if_neg s0]; exact rstep_ownq m h w B b vw s hm ho k1 s0
    · rw [if_neg k1]
      by_cases k2 : h.k = 2
      · rw [if_pos k2]
        unfold midF lookF putF
        by_cases s0 : h.s = 0
        · rw [if_pos s0, if_neg (fun e => by have := e.1; omega)]; exact rstep_join0 m h w B b vw s hm ho k2 s0
        · rw [if_neg s0]
          by_cases s1 : h.s = 1
          · rw [if_pos s1]
            by_cases ok : s.okAt (m.at_ 0 0 0) h.x = true
            · rw [if_pos ok]; exact rstep_join1y m h w B b vw s hm ho k2 s1 ok
            · rw [if_neg ok, if_neg (by omega)]; exact rstep_join1n m h w B b vw s hm ho k2 s1 ok
          · rw [if_neg s1]; exact rstep_joinq m h w B b vw s hm ho k2 s0 s1
      · rw [if_neg k2]
        by_cases k3 : h.k = 3
        · rw [if_pos k3]
          unfold midF lookF putF
          by_cases s0 : h.s = 0
          · rw [if_pos s0]
            by_cases o : s.vAt (m.at_ 1 0 0) % 2 = 1
            · rw [if_pos ⟨k3, o⟩]; exact rstep_even0o m h w B b vw s hm ho k3 s0 o
            · rw [if_neg (fun e => o e.2)]; exact rstep_even0 m h w B b vw s hm ho k3 s0 (by omega)
          · rw [if_neg s0]
            by_cases s1 : h.s = 1
            · rw [if_pos s1]
              by_cases ok : s.okAt (m.at_ 1 0 0) h.x = true
              · rw [if_pos ok]; exact rstep_even1y m h w B b vw s hm ho k3 s1 ok
              · rw [if_neg ok, if_pos k3]; exact rstep_even1n m h w B b vw s hm ho k3 s1 ok
            · rw [if_neg s1]; exact rstep_evenq m h w B b vw s hm ho k3 s0 s1
        · rw [if_neg k3]
          rcases (show h.k < 1 ∨ 3 < h.k by omega) with q | q
          · exact rstep_lo m h w B b vw s hm ho q
          · exact rstep_hi m h w B b vw s hm ho q
  · rw [if_neg ho]
    by_cases k3 : h.k = 3
    · exact rstep_no3 m h w B b vw s hm ho k3
    · exact rstep_noq m h w B b vw s hm ho k3

end Go.Proofs.Ytkfajeimfpbfdaa
