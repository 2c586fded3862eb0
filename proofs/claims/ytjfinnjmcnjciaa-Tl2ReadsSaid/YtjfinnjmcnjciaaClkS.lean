/-
  THE CONTRACT of vclock.Step.
-/
import Derived.Test.YtjfinnjmcnjciaaClkP
namespace Go.Proofs.Ytjfinnjmcnjciaa
open Go.RowKit
attribute [local go_sem] Later.cell Later.frozen

set_option maxRecDepth 100000 in
set_option maxHeartbeats 4000000 in
theorem step_no (m : PM) (h : BD) (w : World) (B b : Nat) (vw : Value) (s : MS) (hm : Mem w B b vw s) (ho : ¬ m.Ok) :
    Calls Try.prog 145 #[m.v, .pointer (some ⟨b, 0, none⟩), h.v] w (BumpRet 106 2 h s B b vw w) := by
  have HST := hid (MkAt.start 31 119 106 2 m h hm)
  have HOLD := hid hm.young
  have hmy : ∀ x : World, Calls Try.prog 104 #[m.v] x fun e w' => e = .returned (.bool false) ∧ Below x.heap.size x w' := fun x => by
    have := may_any m x
    rwa [pmayB_no ho] at this
  have HMY := hid hmy
  clear hmy
  clear hm ho
  obtain ⟨s1, ml, mt, c, d⟩ := m
  obtain ⟨hk, hs, hx, hp⟩ := h
  show Calls _ _ #[.agg #[.int .i64 s1, .int .i64 ml, .int .i64 mt, .int .i64 c, .int .i64 d], _, .agg #[.int .i64 hk, .int .i64 hs, .int .i64 hx, .int .i64 hp]] _ _
  go_enter Try.func145, Try.ntmps145
  go_upto_region 1 with fail
  refine wp_rename _ HST.out ?_
  intro W hbk
  have HK := hid hbk
  obtain ⟨m0, m1, m2, m3, m4, _⟩ := hbk.map.facts
  obtain ⟨d0, d1, d2, d3, df⟩ := hbk.bk.box.facts
  obtain ⟨o0, o1, o2, o3, of⟩ := hbk.bk.out.facts
  clear hbk HST
  go_wp2_with fail
  refine wp_region_later (by kernel_rfl) (by kernel_rfl) ?_
  repeat (go_big_quiet_step ((go_at_call 104; with_reducible exact later_call (HMY.out _))))
  refine wpQuiet_nil ?_
  rintro _ ⟨x, rfl⟩
  have HKX := hid (HK.out.below x.below)
  clear HK m0 m1 m2 m3 m4 d0 d1 d2 d3 df o0 o1 o2 o3 of HMY
  generalize x.v = W2 at HKX ⊢
  clear x
  have HK := HKX
  clear HKX
  obtain ⟨m0, m1, m2, m3, m4, _⟩ := HK.out.map.facts
  obtain ⟨d0, d1, d2, d3, df⟩ := HK.out.bk.box.facts
  obtain ⟨o0, o1, o2, o3, of⟩ := HK.out.bk.out.facts
  go_wp2_with fail
  refine bodyPost_ret (v := (BD.mk hk hs hx hp).v) (by simp [results, Try.results145, go_sem, o0, o1, o2, o3, of]) rfl ?_
  exact HK.out.bk.done HOLD.out _ _ rfl rfl rfl _ _ _ _

set_option maxRecDepth 100000 in
set_option maxHeartbeats 4000000 in
theorem step_own (m : PM) (h : BD) (w : World) (B b : Nat) (vw : Value) (s : MS) (hm : Mem w B b vw s) (ho : m.Ok) (hz : m.size ≤ (s.zs.length : Int)) (hkv : h.k = 1) :
    Calls Try.prog 145 #[m.v, .pointer (some ⟨b, 0, none⟩), h.v] w (BumpRet 106 2 (drawF s h (m.at_ 0 0 0)).1 (drawF s h (m.at_ 0 0 0)).2 B b vw w) := by
  have HST := hid (MkAt.start 31 119 106 2 m h hm)
  have HOLD := hid hm.young
  have hmy : ∀ x : World, Calls Try.prog 104 #[m.v] x fun e w' => e = .returned (.bool true) ∧ Below x.heap.size x w' := fun x => by
    have := may_any m x
    rwa [pmayB_yes ho] at this
  have HMY := hid hmy
  clear hmy
  have HSZ := hid (fun (x : World) => Size_any m x)
  obtain ⟨zl, hzl⟩ : ∃ z : Int, (s.zs.length : Int) = z := ⟨_, rfl⟩
  rw [hzl] at hz
  have HZL := hid hzl
  clear hzl
  have HCK := hid (fun (x : World) => Clock_any m x)
  have HMO := hid (fun (x : World) (hb : Mem x B b vw s) => draw_any h (m.at_ 0 0 0) x B b vw s hb)
  have hlt : decide (zl < m.size) = false := decide_eq_false (by omega)
  clear hm ho hz
  generalize m.size = sz at *
  generalize (drawF s h (m.at_ 0 0 0)).2 = s2 at *
  generalize (drawF s h (m.at_ 0 0 0)).1 = g at *
  obtain ⟨gk, gs, gx, gp⟩ := g
  generalize m.at_ 0 0 0 = p0 at *
  obtain ⟨s1, ml, mt, c, d⟩ := m
  obtain ⟨hk, hs, hx, hp⟩ := h
  simp only at hkv
  subst hkv
  show Calls _ _ #[.agg #[.int .i64 s1, .int .i64 ml, .int .i64 mt, .int .i64 c, .int .i64 d], _, .agg #[.int .i64 1, .int .i64 hs, .int .i64 hx, .int .i64 hp]] _ _
  go_enter Try.func145, Try.ntmps145
  go_upto_region 1 with fail
  refine wp_rename _ HST.out ?_
  intro W hbk
  have HK := hid hbk
  obtain ⟨m0, m1, m2, m3, m4, _⟩ := hbk.map.facts
  obtain ⟨d0, d1, d2, d3, df⟩ := hbk.bk.box.facts
  obtain ⟨o0, o1, o2, o3, of⟩ := hbk.bk.out.facts
  clear hbk HST
  have HLN := hid (fun (x : Later W) => (show Calls Try.prog 69 #[.pointer (some ⟨b, 0, none⟩)] x.v fun e w2 => e = .returned (.int .i64 zl) ∧ x.v = w2 from by have := Len_any x.v B b vw s (HK.out.below x.below).mem; rwa [HZL.out] at this))
  go_wp2_with fail
  refine wp_region_later (by kernel_rfl) (by kernel_rfl) ?_
  repeat (go_big_quiet_step (first | (go_at_call 104; with_reducible exact later_call (HMY.out _)) | (go_at_call 69; with_reducible exact later_same (HLN.out _)) | (go_at_call 70; with_reducible exact later_call (HSZ.out _))))
  refine wpQuiet_nil ?_
  rintro _ ⟨x, rfl⟩
  have HKX := hid (HK.out.below x.below)
  clear HK m0 m1 m2 m3 m4 d0 d1 d2 d3 df o0 o1 o2 o3 of HLN HSZ HMY
  generalize x.v = W2 at HKX ⊢
  clear x
  have HK := HKX
  clear HKX
  obtain ⟨m0, m1, m2, m3, m4, _⟩ := HK.out.map.facts
  obtain ⟨d0, d1, d2, d3, df⟩ := HK.out.bk.box.facts
  obtain ⟨o0, o1, o2, o3, of⟩ := HK.out.bk.out.facts
  go_wp2_with (first | (go_at_call 119; (with_reducible refine (HCK.out _).mono ?_); rintro e w1 ⟨rfl, hb1⟩; have HK := hid (HK.out.below hb1); clear hb1; clear m0 m1 m2 m3 m4 d0 d1 d2 d3 df o0 o1 o2 o3 of; obtain ⟨m0, m1, m2, m3, m4, _⟩ := HK.out.map.facts; obtain ⟨d0, d1, d2, d3, df⟩ := HK.out.bk.box.facts; obtain ⟨o0, o1, o2, o3, of⟩ := HK.out.bk.out.facts) | (go_at_call 147; (with_reducible refine (HMO.out _ HK.out.mem).mono ?_); rintro e w3 ⟨rfl, hm3, hw3⟩; have HK := hid (HK.out.next hm3 hw3 HOLD.out); clear hm3 hw3; clear m0 m1 m2 m3 m4 d0 d1 d2 d3 df o0 o1 o2 o3 of; obtain ⟨m0, m1, m2, m3, m4, _⟩ := HK.out.map.facts; obtain ⟨d0, d1, d2, d3, df⟩ := HK.out.bk.box.facts; obtain ⟨o0, o1, o2, o3, of⟩ := HK.out.bk.out.facts))
  refine bodyPost_ret (v := (BD.mk gk gs gx gp).v) (by simp [results, Try.results145, go_sem, o0, o1, o2, o3, of]) rfl ?_
  exact HK.out.bk.out' HOLD.out ⟨gk, gs, gx, gp⟩ rfl _ _ _ _

set_option maxRecDepth 100000 in
set_option maxHeartbeats 4000000 in
theorem step_join0 (m : PM) (h : BD) (w : World) (B b : Nat) (vw : Value) (s : MS) (hm : Mem w B b vw s) (ho : m.Ok) (hz : m.size ≤ (s.zs.length : Int)) (hkv : h.k = 2) (hsv : h.s = 0) :
    Calls Try.prog 145 #[m.v, .pointer (some ⟨b, 0, none⟩), h.v] w (BumpRet 106 2 (lookF s h (m.at_ 0 0 0)).1 (lookF s h (m.at_ 0 0 0)).2 B b vw w) := by
  have HST := hid (MkAt.start 31 119 106 2 m h hm)
  have HOLD := hid hm.young
  have hmy : ∀ x : World, Calls Try.prog 104 #[m.v] x fun e w' => e = .returned (.bool true) ∧ Below x.heap.size x w' := fun x => by
    have := may_any m x
    rwa [pmayB_yes ho] at this
  have HMY := hid hmy
  clear hmy
  have HSZ := hid (fun (x : World) => Size_any m x)
  obtain ⟨zl, hzl⟩ : ∃ z : Int, (s.zs.length : Int) = z := ⟨_, rfl⟩
  rw [hzl] at hz
  have HZL := hid hzl
  clear hzl
  have HCK := hid (fun (x : World) => Clock_any m x)
  have HMO := hid (fun (x : World) (hb : Mem x B b vw s) => look_any h (m.at_ 0 0 0) x B b vw s hb)
  have hlt : decide (zl < m.size) = false := decide_eq_false (by omega)
  clear hm ho hz
  generalize m.size = sz at *
  generalize (lookF s h (m.at_ 0 0 0)).2 = s2 at *
  generalize (lookF s h (m.at_ 0 0 0)).1 = g at *
  obtain ⟨gk, gs, gx, gp⟩ := g
  generalize m.at_ 0 0 0 = p0 at *
  obtain ⟨s1, ml, mt, c, d⟩ := m
  obtain ⟨hk, hs, hx, hp⟩ := h
  simp only at hkv hsv
  subst hkv hsv
  show Calls _ _ #[.agg #[.int .i64 s1, .int .i64 ml, .int .i64 mt, .int .i64 c, .int .i64 d], _, .agg #[.int .i64 2, .int .i64 0, .int .i64 hx, .int .i64 hp]] _ _
  go_enter Try.func145, Try.ntmps145
  go_upto_region 1 with fail
  refine wp_rename _ HST.out ?_
  intro W hbk
  have HK := hid hbk
  obtain ⟨m0, m1, m2, m3, m4, _⟩ := hbk.map.facts
  obtain ⟨d0, d1, d2, d3, df⟩ := hbk.bk.box.facts
  obtain ⟨o0, o1, o2, o3, of⟩ := hbk.bk.out.facts
  clear hbk HST
  have HLN := hid (fun (x : Later W) => (show Calls Try.prog 69 #[.pointer (some ⟨b, 0, none⟩)] x.v fun e w2 => e = .returned (.int .i64 zl) ∧ x.v = w2 from by have := Len_any x.v B b vw s (HK.out.below x.below).mem; rwa [HZL.out] at this))
  go_wp2_with fail
  refine wp_region_later (by kernel_rfl) (by kernel_rfl) ?_
  repeat (go_big_quiet_step (first | (go_at_call 104; with_reducible exact later_call (HMY.out _)) | (go_at_call 69; with_reducible exact later_same (HLN.out _)) | (go_at_call 70; with_reducible exact later_call (HSZ.out _))))
  refine wpQuiet_nil ?_
  rintro _ ⟨x, rfl⟩
  have HKX := hid (HK.out.below x.below)
  clear HK m0 m1 m2 m3 m4 d0 d1 d2 d3 df o0 o1 o2 o3 of HLN HSZ HMY
  generalize x.v = W2 at HKX ⊢
  clear x
  have HK := HKX
  clear HKX
  obtain ⟨m0, m1, m2, m3, m4, _⟩ := HK.out.map.facts
  obtain ⟨d0, d1, d2, d3, df⟩ := HK.out.bk.box.facts
  obtain ⟨o0, o1, o2, o3, of⟩ := HK.out.bk.out.facts
  go_wp2_with (first | (go_at_call 119; (with_reducible refine (HCK.out _).mono ?_); rintro e w1 ⟨rfl, hb1⟩; have HK := hid (HK.out.below hb1); clear hb1; clear m0 m1 m2 m3 m4 d0 d1 d2 d3 df o0 o1 o2 o3 of; obtain ⟨m0, m1, m2, m3, m4, _⟩ := HK.out.map.facts; obtain ⟨d0, d1, d2, d3, df⟩ := HK.out.bk.box.facts; obtain ⟨o0, o1, o2, o3, of⟩ := HK.out.bk.out.facts) | (go_at_call 148; (with_reducible refine (HMO.out _ HK.out.mem).mono ?_); rintro e w3 ⟨rfl, hm3, hw3⟩; have HK := hid (HK.out.next hm3 hw3 HOLD.out); clear hm3 hw3; clear m0 m1 m2 m3 m4 d0 d1 d2 d3 df o0 o1 o2 o3 of; obtain ⟨m0, m1, m2, m3, m4, _⟩ := HK.out.map.facts; obtain ⟨d0, d1, d2, d3, df⟩ := HK.out.bk.box.facts; obtain ⟨o0, o1, o2, o3, of⟩ := HK.out.bk.out.facts))
  refine bodyPost_ret (v := (BD.mk gk gs gx gp).v) (by simp [results, Try.results145, go_sem, o0, o1, o2, o3, of]) rfl ?_
  exact HK.out.bk.out' HOLD.out ⟨gk, gs, gx, gp⟩ rfl _ _ _ _

set_option maxRecDepth 100000 in
set_option maxHeartbeats 4000000 in
theorem step_join1 (m : PM) (h : BD) (w : World) (B b : Nat) (vw : Value) (s : MS) (hm : Mem w B b vw s) (ho : m.Ok) (hz : m.size ≤ (s.zs.length : Int)) (hkv : h.k = 2) (hsv : h.s = 1) :
    Calls Try.prog 145 #[m.v, .pointer (some ⟨b, 0, none⟩), h.v] w (BumpRet 106 2 (putF s h (m.at_ 0 0 0) 1).1 (putF s h (m.at_ 0 0 0) 1).2 B b vw w) := by
  have HST := hid (MkAt.start 31 119 106 2 m h hm)
  have HOLD := hid hm.young
  have hmy : ∀ x : World, Calls Try.prog 104 #[m.v] x fun e w' => e = .returned (.bool true) ∧ Below x.heap.size x w' := fun x => by
    have := may_any m x
    rwa [pmayB_yes ho] at this
  have HMY := hid hmy
  clear hmy
  have HSZ := hid (fun (x : World) => Size_any m x)
  obtain ⟨zl, hzl⟩ : ∃ z : Int, (s.zs.length : Int) = z := ⟨_, rfl⟩
  rw [hzl] at hz
  have HZL := hid hzl
  clear hzl
  have HCK := hid (fun (x : World) => Clock_any m x)
  have HMO := hid (fun (x : World) (hb : Mem x B b vw s) => put_any h (m.at_ 0 0 0) 1 x B b vw s hb)
  have hlt : decide (zl < m.size) = false := decide_eq_false (by omega)
  clear hm ho hz
  generalize m.size = sz at *
  generalize (putF s h (m.at_ 0 0 0) 1).2 = s2 at *
  generalize (putF s h (m.at_ 0 0 0) 1).1 = g at *
  obtain ⟨gk, gs, gx, gp⟩ := g
  generalize m.at_ 0 0 0 = p0 at *
  obtain ⟨s1, ml, mt, c, d⟩ := m
  obtain ⟨hk, hs, hx, hp⟩ := h
  simp only at hkv hsv
  subst hkv hsv
  show Calls _ _ #[.agg #[.int .i64 s1, .int .i64 ml, .int .i64 mt, .int .i64 c, .int .i64 d], _, .agg #[.int .i64 2, .int .i64 1, .int .i64 hx, .int .i64 hp]] _ _
  go_enter Try.func145, Try.ntmps145
  go_upto_region 1 with fail
  refine wp_rename _ HST.out ?_
  intro W hbk
  have HK := hid hbk
  obtain ⟨m0, m1, m2, m3, m4, _⟩ := hbk.map.facts
  obtain ⟨d0, d1, d2, d3, df⟩ := hbk.bk.box.facts
  obtain ⟨o0, o1, o2, o3, of⟩ := hbk.bk.out.facts
  clear hbk HST
  have HLN := hid (fun (x : Later W) => (show Calls Try.prog 69 #[.pointer (some ⟨b, 0, none⟩)] x.v fun e w2 => e = .returned (.int .i64 zl) ∧ x.v = w2 from by have := Len_any x.v B b vw s (HK.out.below x.below).mem; rwa [HZL.out] at this))
  go_wp2_with fail
  refine wp_region_later (by kernel_rfl) (by kernel_rfl) ?_
  repeat (go_big_quiet_step (first | (go_at_call 104; with_reducible exact later_call (HMY.out _)) | (go_at_call 69; with_reducible exact later_same (HLN.out _)) | (go_at_call 70; with_reducible exact later_call (HSZ.out _))))
  refine wpQuiet_nil ?_
  rintro _ ⟨x, rfl⟩
  have HKX := hid (HK.out.below x.below)
  clear HK m0 m1 m2 m3 m4 d0 d1 d2 d3 df o0 o1 o2 o3 of HLN HSZ HMY
  generalize x.v = W2 at HKX ⊢
  clear x
  have HK := HKX
  clear HKX
  obtain ⟨m0, m1, m2, m3, m4, _⟩ := HK.out.map.facts
  obtain ⟨d0, d1, d2, d3, df⟩ := HK.out.bk.box.facts
  obtain ⟨o0, o1, o2, o3, of⟩ := HK.out.bk.out.facts
  go_wp2_with (first | (go_at_call 119; (with_reducible refine (HCK.out _).mono ?_); rintro e w1 ⟨rfl, hb1⟩; have HK := hid (HK.out.below hb1); clear hb1; clear m0 m1 m2 m3 m4 d0 d1 d2 d3 df o0 o1 o2 o3 of; obtain ⟨m0, m1, m2, m3, m4, _⟩ := HK.out.map.facts; obtain ⟨d0, d1, d2, d3, df⟩ := HK.out.bk.box.facts; obtain ⟨o0, o1, o2, o3, of⟩ := HK.out.bk.out.facts) | (go_at_call 149; (with_reducible refine (HMO.out _ HK.out.mem).mono ?_); rintro e w3 ⟨rfl, hm3, hw3⟩; have HK := hid (HK.out.next hm3 hw3 HOLD.out); clear hm3 hw3; clear m0 m1 m2 m3 m4 d0 d1 d2 d3 df o0 o1 o2 o3 of; obtain ⟨m0, m1, m2, m3, m4, _⟩ := HK.out.map.facts; obtain ⟨d0, d1, d2, d3, df⟩ := HK.out.bk.box.facts; obtain ⟨o0, o1, o2, o3, of⟩ := HK.out.bk.out.facts))
  refine bodyPost_ret (v := (BD.mk gk gs gx gp).v) (by simp [results, Try.results145, go_sem, o0, o1, o2, o3, of]) rfl ?_
  exact HK.out.bk.out' HOLD.out ⟨gk, gs, gx, gp⟩ rfl _ _ _ _

set_option maxRecDepth 100000 in
set_option maxHeartbeats 4000000 in
theorem step_joinq (m : PM) (h : BD) (w : World) (B b : Nat) (vw : Value) (s : MS) (hm : Mem w B b vw s) (ho : m.Ok) (hz : m.size ≤ (s.zs.length : Int)) (hkv : h.k = 2) (q0 : ¬ h.s = 0) (q1 : ¬ h.s = 1) :
    Calls Try.prog 145 #[m.v, .pointer (some ⟨b, 0, none⟩), h.v] w (BumpRet 106 2 h s B b vw w) := by
  have HST := hid (MkAt.start 31 119 106 2 m h hm)
  have HOLD := hid hm.young
  have hmy : ∀ x : World, Calls Try.prog 104 #[m.v] x fun e w' => e = .returned (.bool true) ∧ Below x.heap.size x w' := fun x => by
    have := may_any m x
    rwa [pmayB_yes ho] at this
  have HMY := hid hmy
  clear hmy
  have HSZ := hid (fun (x : World) => Size_any m x)
  obtain ⟨zl, hzl⟩ : ∃ z : Int, (s.zs.length : Int) = z := ⟨_, rfl⟩
  rw [hzl] at hz
  have HZL := hid hzl
  clear hzl
  have HCK := hid (fun (x : World) => Clock_any m x)
  have hlt : decide (zl < m.size) = false := decide_eq_false (by omega)
  clear hm ho hz
  generalize m.size = sz at *
  generalize m.at_ 0 0 0 = p0 at *
  obtain ⟨s1, ml, mt, c, d⟩ := m
  obtain ⟨hk, hs, hx, hp⟩ := h
  simp only at hkv q0 q1
  subst hkv
  show Calls _ _ #[.agg #[.int .i64 s1, .int .i64 ml, .int .i64 mt, .int .i64 c, .int .i64 d], _, .agg #[.int .i64 2, .int .i64 hs, .int .i64 hx, .int .i64 hp]] _ _
  go_enter Try.func145, Try.ntmps145
  go_upto_region 1 with fail
  refine wp_rename _ HST.out ?_
  intro W hbk
  have HK := hid hbk
  obtain ⟨m0, m1, m2, m3, m4, _⟩ := hbk.map.facts
  obtain ⟨d0, d1, d2, d3, df⟩ := hbk.bk.box.facts
  obtain ⟨o0, o1, o2, o3, of⟩ := hbk.bk.out.facts
  clear hbk HST
  have HLN := hid (fun (x : Later W) => (show Calls Try.prog 69 #[.pointer (some ⟨b, 0, none⟩)] x.v fun e w2 => e = .returned (.int .i64 zl) ∧ x.v = w2 from by have := Len_any x.v B b vw s (HK.out.below x.below).mem; rwa [HZL.out] at this))
  go_wp2_with fail
  refine wp_region_later (by kernel_rfl) (by kernel_rfl) ?_
  repeat (go_big_quiet_step (first | (go_at_call 104; with_reducible exact later_call (HMY.out _)) | (go_at_call 69; with_reducible exact later_same (HLN.out _)) | (go_at_call 70; with_reducible exact later_call (HSZ.out _))))
  refine wpQuiet_nil ?_
  rintro _ ⟨x, rfl⟩
  have HKX := hid (HK.out.below x.below)
  clear HK m0 m1 m2 m3 m4 d0 d1 d2 d3 df o0 o1 o2 o3 of HLN HSZ HMY
  generalize x.v = W2 at HKX ⊢
  clear x
  have HK := HKX
  clear HKX
  obtain ⟨m0, m1, m2, m3, m4, _⟩ := HK.out.map.facts
  obtain ⟨d0, d1, d2, d3, df⟩ := HK.out.bk.box.facts
  obtain ⟨o0, o1, o2, o3, of⟩ := HK.out.bk.out.facts
  go_wp2_with (go_at_call 119; (with_reducible refine (HCK.out _).mono ?_); rintro e w1 ⟨rfl, hb1⟩; have HK := hid (HK.out.below hb1); clear hb1; clear m0 m1 m2 m3 m4 d0 d1 d2 d3 df o0 o1 o2 o3 of; obtain ⟨m0, m1, m2, m3, m4, _⟩ := HK.out.map.facts; obtain ⟨d0, d1, d2, d3, df⟩ := HK.out.bk.box.facts; obtain ⟨o0, o1, o2, o3, of⟩ := HK.out.bk.out.facts)
  refine bodyPost_ret (v := (BD.mk 2 hs hx hp).v) (by simp [results, Try.results145, go_sem, o0, o1, o2, o3, of]) rfl ?_
  exact HK.out.bk.done HOLD.out _ _ rfl rfl rfl _ _ _ _

set_option maxRecDepth 100000 in
set_option maxHeartbeats 4000000 in
theorem step_even0 (m : PM) (h : BD) (w : World) (B b : Nat) (vw : Value) (s : MS) (hm : Mem w B b vw s) (ho : m.Ok) (hz : m.size ≤ (s.zs.length : Int)) (hkv : h.k = 3) (hsv : h.s = 0) :
    Calls Try.prog 145 #[m.v, .pointer (some ⟨b, 0, none⟩), h.v] w (BumpRet 106 2 (lookF s h (m.at_ 1 0 0)).1 (lookF s h (m.at_ 1 0 0)).2 B b vw w) := by
  have HST := hid (MkAt.start 31 119 106 2 m h hm)
  have HOLD := hid hm.young
  have hmy : ∀ x : World, Calls Try.prog 104 #[m.v] x fun e w' => e = .returned (.bool true) ∧ Below x.heap.size x w' := fun x => by
    have := may_any m x
    rwa [pmayB_yes ho] at this
  have HMY := hid hmy
  clear hmy
  have HSZ := hid (fun (x : World) => Size_any m x)
  obtain ⟨zl, hzl⟩ : ∃ z : Int, (s.zs.length : Int) = z := ⟨_, rfl⟩
  rw [hzl] at hz
  have HZL := hid hzl
  clear hzl
  have HCK := hid (fun (x : World) => Clock_any m x)
  have HSQ := hid (fun (x : World) => Seq_any m x)
  have HMO := hid (fun (x : World) (hb : Mem x B b vw s) => look_any h (m.at_ 1 0 0) x B b vw s hb)
  have hlt : decide (zl < m.size) = false := decide_eq_false (by omega)
  clear hm ho hz
  generalize m.size = sz at *
  generalize (lookF s h (m.at_ 1 0 0)).2 = s2 at *
  generalize (lookF s h (m.at_ 1 0 0)).1 = g at *
  obtain ⟨gk, gs, gx, gp⟩ := g
  generalize m.at_ 0 0 0 = p0 at *
  generalize m.at_ 1 0 0 = p1 at *
  obtain ⟨s1, ml, mt, c, d⟩ := m
  obtain ⟨hk, hs, hx, hp⟩ := h
  simp only at hkv hsv
  subst hkv hsv
  show Calls _ _ #[.agg #[.int .i64 s1, .int .i64 ml, .int .i64 mt, .int .i64 c, .int .i64 d], _, .agg #[.int .i64 3, .int .i64 0, .int .i64 hx, .int .i64 hp]] _ _
  go_enter Try.func145, Try.ntmps145
  go_upto_region 1 with fail
  refine wp_rename _ HST.out ?_
  intro W hbk
  have HK := hid hbk
  obtain ⟨m0, m1, m2, m3, m4, _⟩ := hbk.map.facts
  obtain ⟨d0, d1, d2, d3, df⟩ := hbk.bk.box.facts
  obtain ⟨o0, o1, o2, o3, of⟩ := hbk.bk.out.facts
  clear hbk HST
  have HLN := hid (fun (x : Later W) => (show Calls Try.prog 69 #[.pointer (some ⟨b, 0, none⟩)] x.v fun e w2 => e = .returned (.int .i64 zl) ∧ x.v = w2 from by have := Len_any x.v B b vw s (HK.out.below x.below).mem; rwa [HZL.out] at this))
  go_wp2_with fail
  refine wp_region_later (by kernel_rfl) (by kernel_rfl) ?_
  repeat (go_big_quiet_step (first | (go_at_call 104; with_reducible exact later_call (HMY.out _)) | (go_at_call 69; with_reducible exact later_same (HLN.out _)) | (go_at_call 70; with_reducible exact later_call (HSZ.out _))))
  refine wpQuiet_nil ?_
  rintro _ ⟨x, rfl⟩
  have HKX := hid (HK.out.below x.below)
  clear HK m0 m1 m2 m3 m4 d0 d1 d2 d3 df o0 o1 o2 o3 of HLN HSZ HMY
  generalize x.v = W2 at HKX ⊢
  clear x
  have HK := HKX
  clear HKX
  obtain ⟨m0, m1, m2, m3, m4, _⟩ := HK.out.map.facts
  obtain ⟨d0, d1, d2, d3, df⟩ := HK.out.bk.box.facts
  obtain ⟨o0, o1, o2, o3, of⟩ := HK.out.bk.out.facts
  go_wp2_with (first | (go_at_call 119; (with_reducible refine (HCK.out _).mono ?_); rintro e w1 ⟨rfl, hb1⟩; have HK := hid (HK.out.below hb1); clear hb1; clear m0 m1 m2 m3 m4 d0 d1 d2 d3 df o0 o1 o2 o3 of; obtain ⟨m0, m1, m2, m3, m4, _⟩ := HK.out.map.facts; obtain ⟨d0, d1, d2, d3, df⟩ := HK.out.bk.box.facts; obtain ⟨o0, o1, o2, o3, of⟩ := HK.out.bk.out.facts) | (go_at_call 23; (with_reducible refine (HSQ.out _).mono ?_); rintro e w2 ⟨rfl, hb2⟩; have HK := hid (HK.out.below hb2); clear hb2; clear m0 m1 m2 m3 m4 d0 d1 d2 d3 df o0 o1 o2 o3 of; obtain ⟨m0, m1, m2, m3, m4, _⟩ := HK.out.map.facts; obtain ⟨d0, d1, d2, d3, df⟩ := HK.out.bk.box.facts; obtain ⟨o0, o1, o2, o3, of⟩ := HK.out.bk.out.facts) | (go_at_call 148; (with_reducible refine (HMO.out _ HK.out.mem).mono ?_); rintro e w3 ⟨rfl, hm3, hw3⟩; have HK := hid (HK.out.next hm3 hw3 HOLD.out); clear hm3 hw3; clear m0 m1 m2 m3 m4 d0 d1 d2 d3 df o0 o1 o2 o3 of; obtain ⟨m0, m1, m2, m3, m4, _⟩ := HK.out.map.facts; obtain ⟨d0, d1, d2, d3, df⟩ := HK.out.bk.box.facts; obtain ⟨o0, o1, o2, o3, of⟩ := HK.out.bk.out.facts))
  refine bodyPost_ret (v := (BD.mk gk gs gx gp).v) (by simp [results, Try.results145, go_sem, o0, o1, o2, o3, of]) rfl ?_
  exact HK.out.bk.out' HOLD.out ⟨gk, gs, gx, gp⟩ rfl _ _ _ _

set_option maxRecDepth 100000 in
set_option maxHeartbeats 4000000 in
theorem step_even1 (m : PM) (h : BD) (w : World) (B b : Nat) (vw : Value) (s : MS) (hm : Mem w B b vw s) (ho : m.Ok) (hz : m.size ≤ (s.zs.length : Int)) (hkv : h.k = 3) (hsv : h.s = 1) :
    Calls Try.prog 145 #[m.v, .pointer (some ⟨b, 0, none⟩), h.v] w (BumpRet 106 2 (putF s h (m.at_ 1 0 0) 2).1 (putF s h (m.at_ 1 0 0) 2).2 B b vw w) := by
  have HST := hid (MkAt.start 31 119 106 2 m h hm)
  have HOLD := hid hm.young
  have hmy : ∀ x : World, Calls Try.prog 104 #[m.v] x fun e w' => e = .returned (.bool true) ∧ Below x.heap.size x w' := fun x => by
    have := may_any m x
    rwa [pmayB_yes ho] at this
  have HMY := hid hmy
  clear hmy
  have HSZ := hid (fun (x : World) => Size_any m x)
  obtain ⟨zl, hzl⟩ : ∃ z : Int, (s.zs.length : Int) = z := ⟨_, rfl⟩
  rw [hzl] at hz
  have HZL := hid hzl
  clear hzl
  have HCK := hid (fun (x : World) => Clock_any m x)
  have HSQ := hid (fun (x : World) => Seq_any m x)
  have HMO := hid (fun (x : World) (hb : Mem x B b vw s) => put_any h (m.at_ 1 0 0) 2 x B b vw s hb)
  have hlt : decide (zl < m.size) = false := decide_eq_false (by omega)
  clear hm ho hz
  generalize m.size = sz at *
  generalize (putF s h (m.at_ 1 0 0) 2).2 = s2 at *
  generalize (putF s h (m.at_ 1 0 0) 2).1 = g at *
  obtain ⟨gk, gs, gx, gp⟩ := g
  generalize m.at_ 0 0 0 = p0 at *
  generalize m.at_ 1 0 0 = p1 at *
  obtain ⟨s1, ml, mt, c, d⟩ := m
  obtain ⟨hk, hs, hx, hp⟩ := h
  simp only at hkv hsv
  subst hkv hsv
  show Calls _ _ #[.agg #[.int .i64 s1, .int .i64 ml, .int .i64 mt, .int .i64 c, .int .i64 d], _, .agg #[.int .i64 3, .int .i64 1, .int .i64 hx, .int .i64 hp]] _ _
  go_enter Try.func145, Try.ntmps145
  go_upto_region 1 with fail
  refine wp_rename _ HST.out ?_
  intro W hbk
  have HK := hid hbk
  obtain ⟨m0, m1, m2, m3, m4, _⟩ := hbk.map.facts
  obtain ⟨d0, d1, d2, d3, df⟩ := hbk.bk.box.facts
  obtain ⟨o0, o1, o2, o3, of⟩ := hbk.bk.out.facts
  clear hbk HST
  have HLN := hid (fun (x : Later W) => (show Calls Try.prog 69 #[.pointer (some ⟨b, 0, none⟩)] x.v fun e w2 => e = .returned (.int .i64 zl) ∧ x.v = w2 from by have := Len_any x.v B b vw s (HK.out.below x.below).mem; rwa [HZL.out] at this))
  go_wp2_with fail
  refine wp_region_later (by kernel_rfl) (by kernel_rfl) ?_
  repeat (go_big_quiet_step (first | (go_at_call 104; with_reducible exact later_call (HMY.out _)) | (go_at_call 69; with_reducible exact later_same (HLN.out _)) | (go_at_call 70; with_reducible exact later_call (HSZ.out _))))
  refine wpQuiet_nil ?_
  rintro _ ⟨x, rfl⟩
  have HKX := hid (HK.out.below x.below)
  clear HK m0 m1 m2 m3 m4 d0 d1 d2 d3 df o0 o1 o2 o3 of HLN HSZ HMY
  generalize x.v = W2 at HKX ⊢
  clear x
  have HK := HKX
  clear HKX
  obtain ⟨m0, m1, m2, m3, m4, _⟩ := HK.out.map.facts
  obtain ⟨d0, d1, d2, d3, df⟩ := HK.out.bk.box.facts
  obtain ⟨o0, o1, o2, o3, of⟩ := HK.out.bk.out.facts
  go_wp2_with (first | (go_at_call 119; (with_reducible refine (HCK.out _).mono ?_); rintro e w1 ⟨rfl, hb1⟩; have HK := hid (HK.out.below hb1); clear hb1; clear m0 m1 m2 m3 m4 d0 d1 d2 d3 df o0 o1 o2 o3 of; obtain ⟨m0, m1, m2, m3, m4, _⟩ := HK.out.map.facts; obtain ⟨d0, d1, d2, d3, df⟩ := HK.out.bk.box.facts; obtain ⟨o0, o1, o2, o3, of⟩ := HK.out.bk.out.facts) | (go_at_call 23; (with_reducible refine (HSQ.out _).mono ?_); rintro e w2 ⟨rfl, hb2⟩; have HK := hid (HK.out.below hb2); clear hb2; clear m0 m1 m2 m3 m4 d0 d1 d2 d3 df o0 o1 o2 o3 of; obtain ⟨m0, m1, m2, m3, m4, _⟩ := HK.out.map.facts; obtain ⟨d0, d1, d2, d3, df⟩ := HK.out.bk.box.facts; obtain ⟨o0, o1, o2, o3, of⟩ := HK.out.bk.out.facts) | (go_at_call 149; (with_reducible refine (HMO.out _ HK.out.mem).mono ?_); rintro e w3 ⟨rfl, hm3, hw3⟩; have HK := hid (HK.out.next hm3 hw3 HOLD.out); clear hm3 hw3; clear m0 m1 m2 m3 m4 d0 d1 d2 d3 df o0 o1 o2 o3 of; obtain ⟨m0, m1, m2, m3, m4, _⟩ := HK.out.map.facts; obtain ⟨d0, d1, d2, d3, df⟩ := HK.out.bk.box.facts; obtain ⟨o0, o1, o2, o3, of⟩ := HK.out.bk.out.facts))
  refine bodyPost_ret (v := (BD.mk gk gs gx gp).v) (by simp [results, Try.results145, go_sem, o0, o1, o2, o3, of]) rfl ?_
  exact HK.out.bk.out' HOLD.out ⟨gk, gs, gx, gp⟩ rfl _ _ _ _

set_option maxRecDepth 100000 in
set_option maxHeartbeats 4000000 in
theorem step_evenq (m : PM) (h : BD) (w : World) (B b : Nat) (vw : Value) (s : MS) (hm : Mem w B b vw s) (ho : m.Ok) (hz : m.size ≤ (s.zs.length : Int)) (hkv : h.k = 3) (q0 : ¬ h.s = 0) (q1 : ¬ h.s = 1) :
    Calls Try.prog 145 #[m.v, .pointer (some ⟨b, 0, none⟩), h.v] w (BumpRet 106 2 h s B b vw w) := by
  have HST := hid (MkAt.start 31 119 106 2 m h hm)
  have HOLD := hid hm.young
  have hmy : ∀ x : World, Calls Try.prog 104 #[m.v] x fun e w' => e = .returned (.bool true) ∧ Below x.heap.size x w' := fun x => by
    have := may_any m x
    rwa [pmayB_yes ho] at this
  have HMY := hid hmy
  clear hmy
  have HSZ := hid (fun (x : World) => Size_any m x)
  obtain ⟨zl, hzl⟩ : ∃ z : Int, (s.zs.length : Int) = z := ⟨_, rfl⟩
  rw [hzl] at hz
  have HZL := hid hzl
  clear hzl
  have HCK := hid (fun (x : World) => Clock_any m x)
  have HSQ := hid (fun (x : World) => Seq_any m x)
  have hlt : decide (zl < m.size) = false := decide_eq_false (by omega)
  clear hm ho hz
  generalize m.size = sz at *
  generalize m.at_ 0 0 0 = p0 at *
  generalize m.at_ 1 0 0 = p1 at *
  obtain ⟨s1, ml, mt, c, d⟩ := m
  obtain ⟨hk, hs, hx, hp⟩ := h
  simp only at hkv q0 q1
  subst hkv
  show Calls _ _ #[.agg #[.int .i64 s1, .int .i64 ml, .int .i64 mt, .int .i64 c, .int .i64 d], _, .agg #[.int .i64 3, .int .i64 hs, .int .i64 hx, .int .i64 hp]] _ _
  go_enter Try.func145, Try.ntmps145
  go_upto_region 1 with fail
  refine wp_rename _ HST.out ?_
  intro W hbk
  have HK := hid hbk
  obtain ⟨m0, m1, m2, m3, m4, _⟩ := hbk.map.facts
  obtain ⟨d0, d1, d2, d3, df⟩ := hbk.bk.box.facts
  obtain ⟨o0, o1, o2, o3, of⟩ := hbk.bk.out.facts
  clear hbk HST
  have HLN := hid (fun (x : Later W) => (show Calls Try.prog 69 #[.pointer (some ⟨b, 0, none⟩)] x.v fun e w2 => e = .returned (.int .i64 zl) ∧ x.v = w2 from by have := Len_any x.v B b vw s (HK.out.below x.below).mem; rwa [HZL.out] at this))
  go_wp2_with fail
  refine wp_region_later (by kernel_rfl) (by kernel_rfl) ?_
  repeat (go_big_quiet_step (first | (go_at_call 104; with_reducible exact later_call (HMY.out _)) | (go_at_call 69; with_reducible exact later_same (HLN.out _)) | (go_at_call 70; with_reducible exact later_call (HSZ.out _))))
  refine wpQuiet_nil ?_
  rintro _ ⟨x, rfl⟩
  have HKX := hid (HK.out.below x.below)
  clear HK m0 m1 m2 m3 m4 d0 d1 d2 d3 df o0 o1 o2 o3 of HLN HSZ HMY
  generalize x.v = W2 at HKX ⊢
  clear x
  have HK := HKX
  clear HKX
  obtain ⟨m0, m1, m2, m3, m4, _⟩ := HK.out.map.facts
  obtain ⟨d0, d1, d2, d3, df⟩ := HK.out.bk.box.facts
  obtain ⟨o0, o1, o2, o3, of⟩ := HK.out.bk.out.facts
  go_wp2_with (first | (go_at_call 119; (with_reducible refine (HCK.out _).mono ?_); rintro e w1 ⟨rfl, hb1⟩; have HK := hid (HK.out.below hb1); clear hb1; clear m0 m1 m2 m3 m4 d0 d1 d2 d3 df o0 o1 o2 o3 of; obtain ⟨m0, m1, m2, m3, m4, _⟩ := HK.out.map.facts; obtain ⟨d0, d1, d2, d3, df⟩ := HK.out.bk.box.facts; obtain ⟨o0, o1, o2, o3, of⟩ := HK.out.bk.out.facts) | (go_at_call 23; (with_reducible refine (HSQ.out _).mono ?_); rintro e w2 ⟨rfl, hb2⟩; have HK := hid (HK.out.below hb2); clear hb2; clear m0 m1 m2 m3 m4 d0 d1 d2 d3 df o0 o1 o2 o3 of; obtain ⟨m0, m1, m2, m3, m4, _⟩ := HK.out.map.facts; obtain ⟨d0, d1, d2, d3, df⟩ := HK.out.bk.box.facts; obtain ⟨o0, o1, o2, o3, of⟩ := HK.out.bk.out.facts))
  refine bodyPost_ret (v := (BD.mk 3 hs hx hp).v) (by simp [results, Try.results145, go_sem, o0, o1, o2, o3, of]) rfl ?_
  exact HK.out.bk.done HOLD.out _ _ rfl rfl rfl _ _ _ _

set_option maxRecDepth 100000 in
set_option maxHeartbeats 4000000 in
theorem step_q (m : PM) (h : BD) (w : World) (B b : Nat) (vw : Value) (s : MS) (hm : Mem w B b vw s) (ho : m.Ok) (hz : m.size ≤ (s.zs.length : Int)) (k1 : ¬ h.k = 1) (k2 : ¬ h.k = 2) (k3 : ¬ h.k = 3) :
    Calls Try.prog 145 #[m.v, .pointer (some ⟨b, 0, none⟩), h.v] w (BumpRet 106 2 h s B b vw w) := by
  have HST := hid (MkAt.start 31 119 106 2 m h hm)
  have HOLD := hid hm.young
  have hmy : ∀ x : World, Calls Try.prog 104 #[m.v] x fun e w' => e = .returned (.bool true) ∧ Below x.heap.size x w' := fun x => by
    have := may_any m x
    rwa [pmayB_yes ho] at this
  have HMY := hid hmy
  clear hmy
  have HSZ := hid (fun (x : World) => Size_any m x)
  obtain ⟨zl, hzl⟩ : ∃ z : Int, (s.zs.length : Int) = z := ⟨_, rfl⟩
  rw [hzl] at hz
  have HZL := hid hzl
  clear hzl
  have HCK := hid (fun (x : World) => Clock_any m x)
  have hlt : decide (zl < m.size) = false := decide_eq_false (by omega)
  clear hm ho hz
  generalize m.size = sz at *
  generalize m.at_ 0 0 0 = p0 at *
  obtain ⟨s1, ml, mt, c, d⟩ := m
  obtain ⟨hk, hs, hx, hp⟩ := h
  simp only at k1 k2 k3
  show Calls _ _ #[.agg #[.int .i64 s1, .int .i64 ml, .int .i64 mt, .int .i64 c, .int .i64 d], _, .agg #[.int .i64 hk, .int .i64 hs, .int .i64 hx, .int .i64 hp]] _ _
  go_enter Try.func145, Try.ntmps145
  go_upto_region 1 with fail
  refine wp_rename _ HST.out ?_
  intro W hbk
  have HK := hid hbk
  obtain ⟨m0, m1, m2, m3, m4, _⟩ := hbk.map.facts
  obtain ⟨d0, d1, d2, d3, df⟩ := hbk.bk.box.facts
  obtain ⟨o0, o1, o2, o3, of⟩ := hbk.bk.out.facts
  clear hbk HST
  have HLN := hid (fun (x : Later W) => (show Calls Try.prog 69 #[.pointer (some ⟨b, 0, none⟩)] x.v fun e w2 => e = .returned (.int .i64 zl) ∧ x.v = w2 from by have := Len_any x.v B b vw s (HK.out.below x.below).mem; rwa [HZL.out] at this))
  go_wp2_with fail
  refine wp_region_later (by kernel_rfl) (by kernel_rfl) ?_
  repeat (go_big_quiet_step (first | (go_at_call 104; with_reducible exact later_call (HMY.out _)) | (go_at_call 69; with_reducible exact later_same (HLN.out _)) | (go_at_call 70; with_reducible exact later_call (HSZ.out _))))
  refine wpQuiet_nil ?_
  rintro _ ⟨x, rfl⟩
  have HKX := hid (HK.out.below x.below)
  clear HK m0 m1 m2 m3 m4 d0 d1 d2 d3 df o0 o1 o2 o3 of HLN HSZ HMY
  generalize x.v = W2 at HKX ⊢
  clear x
  have HK := HKX
  clear HKX
  obtain ⟨m0, m1, m2, m3, m4, _⟩ := HK.out.map.facts
  obtain ⟨d0, d1, d2, d3, df⟩ := HK.out.bk.box.facts
  obtain ⟨o0, o1, o2, o3, of⟩ := HK.out.bk.out.facts
  go_wp2_with (go_at_call 119; (with_reducible refine (HCK.out _).mono ?_); rintro e w1 ⟨rfl, hb1⟩; have HK := hid (HK.out.below hb1); clear hb1; clear m0 m1 m2 m3 m4 d0 d1 d2 d3 df o0 o1 o2 o3 of; obtain ⟨m0, m1, m2, m3, m4, _⟩ := HK.out.map.facts; obtain ⟨d0, d1, d2, d3, df⟩ := HK.out.bk.box.facts; obtain ⟨o0, o1, o2, o3, of⟩ := HK.out.bk.out.facts)
  refine bodyPost_ret (v := (BD.mk hk hs hx hp).v) (by simp [results, Try.results145, go_sem, o0, o1, o2, o3, of]) rfl ?_
  exact HK.out.bk.done HOLD.out _ _ rfl rfl rfl _ _ _ _

theorem Step_any (m : PM) (h : BD) (w : World) (B b : Nat) (vw : Value) (s : MS) (hm : Mem w B b vw s) (hz : m.size ≤ (s.zs.length : Int)) :
    Calls Try.prog 145 #[m.v, .pointer (some ⟨b, 0, none⟩), h.v] w (BumpRet 106 2 (bumpF m s h).1 (bumpF m s h).2 B b vw w) := by
  unfold bumpF
  by_cases ho : m.Ok
  · rw [if_pos ho]
    by_cases k1 : h.k = 1
    · rw [if_pos k1]; exact step_own m h w B b vw s hm ho hz k1
    · rw [if_neg k1]
      by_cases k2 : h.k = 2
      · rw [if_pos k2]
        unfold midF
        by_cases s0 : h.s = 0
        · rw [if_pos s0]; exact step_join0 m h w B b vw s hm ho hz k2 s0
        · rw [if_neg s0]
          by_cases s1 : h.s = 1
          · rw [if_pos s1]; exact step_join1 m h w B b vw s hm ho hz k2 s1
          · rw [if_neg s1]; exact step_joinq m h w B b vw s hm ho hz k2 s0 s1
      · rw [if_neg k2]
        by_cases k3 : h.k = 3
        · rw [if_pos k3]
          unfold midF
          by_cases s0 : h.s = 0
          · rw [if_pos s0]; exact step_even0 m h w B b vw s hm ho hz k3 s0
          · rw [if_neg s0]
            by_cases s1 : h.s = 1
            · rw [if_pos s1]; exact step_even1 m h w B b vw s hm ho hz k3 s1
            · rw [if_neg s1]; exact step_evenq m h w B b vw s hm ho hz k3 s0 s1
        · rw [if_neg k3]; exact step_q m h w B b vw s hm ho hz k1 k2 k3
  · rw [if_neg ho]; exact step_no m h w B b vw s hm ho

set_option maxRecDepth 100000 in
set_option maxHeartbeats 4000000 in
/-- Where there is no memory a bump is as it was. -/
theorem Step_nil (m : PM) (h : BD) (w : World) (ho : m.Ok) :
    Calls Try.prog 145 #[m.v, .pointer none, h.v] w fun e w' => e = .returned h.v ∧ Below w.heap.size w w' := by
  have hmy : ∀ x : World, Calls Try.prog 104 #[m.v] x fun e w' => e = .returned (.bool true) ∧ Below x.heap.size x w' := fun x => by
    have := may_any m x
    rwa [pmayB_yes ho] at this
  have HMY := hid hmy
  have HSZ := hid (fun (x : World) => Size_any m x)
  have HLN := hid (fun (x : World) => Len_nil x)
  have hlt : decide (0 < m.size) = true := decide_eq_true (by have := (PM.size_bounds ho).1; omega)
  have HMO := hid (fun (m : PM) (h : BD) (w x : World) (hb : Below (((w.alloc (.cells m.cells 31)).alloc (.cells h.cells 119)).alloc (.cells b0.cells 119)).heap.size (((w.alloc (.cells m.cells 31)).alloc (.cells h.cells 119)).alloc (.cells b0.cells 119)) x) => (show BumpAt 119 x (w.heap.size + 1 + 1) b0 ∧ BumpAt 119 x (w.heap.size + 1) h from by
    have h2 := (BumpAt.new 119 ((w.alloc (.cells m.cells 31)).alloc (.cells h.cells 119)) b0).below hb
    have h1 := ((BumpAt.new 119 (w.alloc (.cells m.cells 31)) h).below (bnew (bid _) (.cells b0.cells 119))).below hb
    rw [size_alloc2] at h2
    rw [size_alloc1] at h1
    exact ⟨h2, h1⟩))
  clear hmy ho
  generalize m.size = sz at *
  obtain ⟨s1, ml, mt, c, d⟩ := m
  obtain ⟨hk, hs, hx, hp⟩ := h
  show Calls _ _ #[.agg #[.int .i64 s1, .int .i64 ml, .int .i64 mt, .int .i64 c, .int .i64 d], _, .agg #[.int .i64 hk, .int .i64 hs, .int .i64 hx, .int .i64 hp]] _ _
  go_enter Try.func145, Try.ntmps145
  go_wp2_with fail
  refine wp_region_later (by kernel_rfl) (by kernel_rfl) ?_
  repeat (go_big_quiet_step (first | (go_at_call 104; with_reducible exact later_call (HMY.out _)) | (go_at_call 69; with_reducible exact later_same (HLN.out _)) | (go_at_call 70; with_reducible exact later_call (HSZ.out _))))
  refine wpQuiet_nil ?_
  rintro _ ⟨x, rfl⟩
  obtain ⟨o0, o1, o2, o3, of⟩ := (HMO.out ⟨s1, ml, mt, c, d⟩ ⟨hk, hs, hx, hp⟩ w x.v x.below).1.facts
  obtain ⟨d0, d1, d2, d3, df⟩ := (HMO.out ⟨s1, ml, mt, c, d⟩ ⟨hk, hs, hx, hp⟩ w x.v x.below).2.facts
  have HB := hid (bthen (bnew (bnew (bnew (bid w) _) _) _) x.below)
  generalize x.v = W2 at HB o0 o1 o2 o3 of d0 d1 d2 d3 df ⊢
  clear x HMO
  go_wp2_with fail
  refine bodyPost_ret (v := (BD.mk hk hs hx hp).v) (by simp [results, Try.results145, go_sem, o0, o1, o2, o3, of]) rfl ?_
  exact ⟨rfl, ((Wrote.of_below HB.out (fun _ => False)).set4 (fun h => by omega) _ _ _ _).below (Nat.le_refl _) (fun _ _ h => h)⟩

end Go.Proofs.Ytjfinnjmcnjciaa
