/-
  THE CONTRACTS of vclock's draw, look and put.
-/
import Derived.Test.YtjfinnjmcnjciaaBmp
namespace Go.Proofs.Ytjfinnjmcnjciaa
open Go.RowKit
attribute [local go_sem] Later.cell Later.frozen and1

set_option maxRecDepth 100000 in
set_option maxHeartbeats 4000000 in
theorem draw_0 (h : BD) (p : Int) (w : World) (B b : Nat) (vw : Value) (s : MS) (hm : Mem w B b vw s) (hsv : h.s = 0) :
    Calls Try.prog 147 #[.pointer (some ⟨b, 0, none⟩), h.v, .int .i64 p] w (BumpRet 106 2 ⟨h.k, 9, h.x, wrap64 (s.vAt p + 1)⟩ (s.added p 1) B b vw w) := by
  have HST := hid (BkAt.two 119 106 2 h hm)
  have HOLD := hid hm.young
  have HMO := hid (fun (x : World) (hb : Mem x B b vw s) => Add_at p 1 x B b vw s hb)
  clear hm
  generalize s.added p 1 = s2 at *
  generalize s.eAt p = ee at *
  generalize s.vAt p = y at *
  obtain ⟨hk, hs, hx, hp⟩ := h
  simp only at hsv
  subst hsv
  show Calls _ _ #[_, .agg #[.int .i64 hk, .int .i64 0, .int .i64 hx, .int .i64 hp], _] _ _
  go_enter Try.func147, Try.ntmps147
  go_upto_region 1 with fail
  refine wp_rename _ HST.out ?_
  intro W hbk
  have HK := hid hbk
  obtain ⟨d0, d1, d2, d3, df⟩ := hbk.box.facts
  obtain ⟨o0, o1, o2, o3, of⟩ := hbk.out.facts
  clear hbk HST
  go_wp2_with (go_at_call 150; (with_reducible refine (HMO.out _ HK.out.mem).mono ?_); rintro e w4 ⟨rfl, hm4, hw4⟩; have HK := hid (HK.out.next hm4 hw4 HOLD.out); clear hm4 hw4; clear d0 d1 d2 d3 df o0 o1 o2 o3 of; obtain ⟨d0, d1, d2, d3, df⟩ := HK.out.box.facts; obtain ⟨o0, o1, o2, o3, of⟩ := HK.out.out.facts)
  refine bodyPost_ret (v := (BD.mk hk 9 hx (wrap64 (y + 1))).v) (by simp [results, Try.results147, go_sem, o0, o1, o2, o3, of]) rfl ?_
  exact ((HK.out.setP HOLD.out (wrap64 (y + 1))).setS HOLD.out 9).done HOLD.out _ _ rfl rfl rfl _ _ _ _

set_option maxRecDepth 100000 in
set_option maxHeartbeats 4000000 in
theorem draw_n (h : BD) (p : Int) (w : World) (B b : Nat) (vw : Value) (s : MS) (hm : Mem w B b vw s) (hsv : ¬ h.s = 0) :
    Calls Try.prog 147 #[.pointer (some ⟨b, 0, none⟩), h.v, .int .i64 p] w (BumpRet 106 2 h s B b vw w) := by
  have HST := hid (BkAt.two 119 106 2 h hm)
  have HOLD := hid hm.young

  clear hm
  obtain ⟨hk, hs, hx, hp⟩ := h
  simp only at hsv
  show Calls _ _ #[_, .agg #[.int .i64 hk, .int .i64 hs, .int .i64 hx, .int .i64 hp], _] _ _
  go_enter Try.func147, Try.ntmps147
  go_upto_region 1 with fail
  refine wp_rename _ HST.out ?_
  intro W hbk
  have HK := hid hbk
  obtain ⟨d0, d1, d2, d3, df⟩ := hbk.box.facts
  obtain ⟨o0, o1, o2, o3, of⟩ := hbk.out.facts
  clear hbk HST
  go_wp2_with fail
  refine bodyPost_ret (v := (BD.mk hk hs hx hp).v) (by simp [results, Try.results147, go_sem, o0, o1, o2, o3, of]) rfl ?_
  exact HK.out.done HOLD.out _ _ rfl rfl rfl _ _ _ _

theorem draw_any (h : BD) (p : Int) (w : World) (B b : Nat) (vw : Value) (s : MS) (hm : Mem w B b vw s) :
    Calls Try.prog 147 #[.pointer (some ⟨b, 0, none⟩), h.v, .int .i64 p] w (BumpRet 106 2 (drawF s h p).1 (drawF s h p).2 B b vw w) := by
  unfold drawF
  by_cases c : h.s = 0
  · rw [if_pos c]; exact draw_0 h p w B b vw s hm c
  · rw [if_neg c]; exact draw_n h p w B b vw s hm c

set_option maxRecDepth 100000 in
set_option maxHeartbeats 4000000 in
theorem look_odd (h : BD) (p : Int) (w : World) (B b : Nat) (vw : Value) (s : MS) (hm : Mem w B b vw s) (hkv : h.k = 3) (hy : s.vAt p % 2 = 1) :
    Calls Try.prog 148 #[.pointer (some ⟨b, 0, none⟩), h.v, .int .i64 p] w (BumpRet 106 2 h (s.loaded p) B b vw w) := by
  have HST := hid (BkAt.two 119 106 2 h hm)
  have HOLD := hid hm.young
  have HMO := hid (fun (x : World) (hb : Mem x B b vw s) => Load_at p x B b vw s hb)
  clear hm
  generalize s.loaded p = s2 at *
  generalize s.eAt p = ee at *
  generalize s.vAt p = y at *
  obtain ⟨hk, hs, hx, hp⟩ := h
  simp only at hkv
  subst hkv
  show Calls _ _ #[_, .agg #[.int .i64 3, .int .i64 hs, .int .i64 hx, .int .i64 hp], _] _ _
  go_enter Try.func148, Try.ntmps148
  go_upto_region 1 with fail
  refine wp_rename _ HST.out ?_
  intro W hbk
  have HK := hid hbk
  obtain ⟨d0, d1, d2, d3, df⟩ := hbk.box.facts
  obtain ⟨o0, o1, o2, o3, of⟩ := hbk.out.facts
  clear hbk HST
  go_wp2_with (go_at_call 107; (with_reducible refine (HMO.out _ HK.out.mem).mono ?_); rintro e w4 ⟨rfl, hm4, hw4⟩; have HK := hid (HK.out.next hm4 hw4 HOLD.out); clear hm4 hw4; clear d0 d1 d2 d3 df o0 o1 o2 o3 of; obtain ⟨d0, d1, d2, d3, df⟩ := HK.out.box.facts; obtain ⟨o0, o1, o2, o3, of⟩ := HK.out.out.facts)
  refine bodyPost_ret (v := (BD.mk 3 hs hx hp).v) (by simp [results, Try.results148, go_sem, o0, o1, o2, o3, of]) rfl ?_
  exact HK.out.done HOLD.out _ _ rfl rfl rfl _ _ _ _

set_option maxRecDepth 100000 in
set_option maxHeartbeats 4000000 in
theorem look_even (h : BD) (p : Int) (w : World) (B b : Nat) (vw : Value) (s : MS) (hm : Mem w B b vw s) (hkv : h.k = 3) (hy : ¬ s.vAt p % 2 = 1) :
    Calls Try.prog 148 #[.pointer (some ⟨b, 0, none⟩), h.v, .int .i64 p] w (BumpRet 106 2 ⟨h.k, 1, s.vAt p, h.p⟩ (s.loaded p) B b vw w) := by
  have HST := hid (BkAt.two 119 106 2 h hm)
  have HOLD := hid hm.young
  have HMO := hid (fun (x : World) (hb : Mem x B b vw s) => Load_at p x B b vw s hb)
  clear hm
  generalize s.loaded p = s2 at *
  generalize s.eAt p = ee at *
  generalize s.vAt p = y at *
  obtain ⟨hk, hs, hx, hp⟩ := h
  simp only at hkv
  subst hkv
  show Calls _ _ #[_, .agg #[.int .i64 3, .int .i64 hs, .int .i64 hx, .int .i64 hp], _] _ _
  go_enter Try.func148, Try.ntmps148
  go_upto_region 1 with fail
  refine wp_rename _ HST.out ?_
  intro W hbk
  have HK := hid hbk
  obtain ⟨d0, d1, d2, d3, df⟩ := hbk.box.facts
  obtain ⟨o0, o1, o2, o3, of⟩ := hbk.out.facts
  clear hbk HST
  go_wp2_with (go_at_call 107; (with_reducible refine (HMO.out _ HK.out.mem).mono ?_); rintro e w4 ⟨rfl, hm4, hw4⟩; have HK := hid (HK.out.next hm4 hw4 HOLD.out); clear hm4 hw4; clear d0 d1 d2 d3 df o0 o1 o2 o3 of; obtain ⟨d0, d1, d2, d3, df⟩ := HK.out.box.facts; obtain ⟨o0, o1, o2, o3, of⟩ := HK.out.out.facts)
  refine bodyPost_ret (v := (BD.mk 3 1 y hp).v) (by simp [results, Try.results148, go_sem, o0, o1, o2, o3, of]) rfl ?_
  exact ((HK.out.setX HOLD.out y).setS HOLD.out 1).done HOLD.out _ _ rfl rfl rfl _ _ _ _

set_option maxRecDepth 100000 in
set_option maxHeartbeats 4000000 in
theorem look_join (h : BD) (p : Int) (w : World) (B b : Nat) (vw : Value) (s : MS) (hm : Mem w B b vw s) (hkv : ¬ h.k = 3) :
    Calls Try.prog 148 #[.pointer (some ⟨b, 0, none⟩), h.v, .int .i64 p] w (BumpRet 106 2 ⟨h.k, 1, s.vAt p, h.p⟩ (s.loaded p) B b vw w) := by
  have HST := hid (BkAt.two 119 106 2 h hm)
  have HOLD := hid hm.young
  have HMO := hid (fun (x : World) (hb : Mem x B b vw s) => Load_at p x B b vw s hb)
  clear hm
  generalize s.loaded p = s2 at *
  generalize s.eAt p = ee at *
  generalize s.vAt p = y at *
  obtain ⟨hk, hs, hx, hp⟩ := h
  simp only at hkv
  show Calls _ _ #[_, .agg #[.int .i64 hk, .int .i64 hs, .int .i64 hx, .int .i64 hp], _] _ _
  go_enter Try.func148, Try.ntmps148
  go_upto_region 1 with fail
  refine wp_rename _ HST.out ?_
  intro W hbk
  have HK := hid hbk
  obtain ⟨d0, d1, d2, d3, df⟩ := hbk.box.facts
  obtain ⟨o0, o1, o2, o3, of⟩ := hbk.out.facts
  clear hbk HST
  go_wp2_with (go_at_call 107; (with_reducible refine (HMO.out _ HK.out.mem).mono ?_); rintro e w4 ⟨rfl, hm4, hw4⟩; have HK := hid (HK.out.next hm4 hw4 HOLD.out); clear hm4 hw4; clear d0 d1 d2 d3 df o0 o1 o2 o3 of; obtain ⟨d0, d1, d2, d3, df⟩ := HK.out.box.facts; obtain ⟨o0, o1, o2, o3, of⟩ := HK.out.out.facts)
  refine bodyPost_ret (v := (BD.mk hk 1 y hp).v) (by simp [results, Try.results148, go_sem, o0, o1, o2, o3, of]) rfl ?_
  exact ((HK.out.setX HOLD.out y).setS HOLD.out 1).done HOLD.out _ _ rfl rfl rfl _ _ _ _

theorem look_any (h : BD) (p : Int) (w : World) (B b : Nat) (vw : Value) (s : MS) (hm : Mem w B b vw s) :
    Calls Try.prog 148 #[.pointer (some ⟨b, 0, none⟩), h.v, .int .i64 p] w (BumpRet 106 2 (lookF s h p).1 (lookF s h p).2 B b vw w) := by
  unfold lookF
  dsimp only
  by_cases c : h.k = 3
  · by_cases o : s.vAt p % 2 = 1
    · rw [if_pos ⟨c, o⟩]; exact look_odd h p w B b vw s hm c o
    · rw [if_neg (fun e => o e.2)]; exact look_even h p w B b vw s hm c o
  · rw [if_neg (fun e => c e.1)]; exact look_join h p w B b vw s hm c

set_option maxRecDepth 100000 in
set_option maxHeartbeats 4000000 in
theorem put_yes (h : BD) (p more : Int) (w : World) (B b : Nat) (vw : Value) (s : MS) (hm : Mem w B b vw s) (hok : s.okAt p h.x = true) :
    Calls Try.prog 149 #[.pointer (some ⟨b, 0, none⟩), h.v, .int .i64 p, .int .i64 more] w (BumpRet 106 2 ⟨h.k, 9, h.x, wrap64 (h.x + more)⟩ (s.swapped p h.x (wrap64 (h.x + more))) B b vw w) := by
  have HST := hid (BkAt.two 119 106 2 h hm)
  have HOLD := hid hm.young
  have HMO := hid (fun (x : World) (hb : Mem x B b vw s) => Swap_at p h.x (wrap64 (h.x + more)) x B b vw s hb)
  clear hm
  generalize s.swapped p h.x (wrap64 (h.x + more)) = s2 at *
  generalize s.okAt p h.x = ok at *
  generalize s.eAt p = ee at *
  generalize s.vAt p = y at *
  subst hok
  obtain ⟨hk, hs, hx, hp⟩ := h
  show Calls _ _ #[_, .agg #[.int .i64 hk, .int .i64 hs, .int .i64 hx, .int .i64 hp], _, _] _ _
  go_enter Try.func149, Try.ntmps149
  go_upto_region 1 with fail
  refine wp_rename _ HST.out ?_
  intro W hbk
  have HK := hid hbk
  obtain ⟨d0, d1, d2, d3, df⟩ := hbk.box.facts
  obtain ⟨o0, o1, o2, o3, of⟩ := hbk.out.facts
  clear hbk HST
  go_wp2_with (go_at_call 136; (with_reducible refine (HMO.out _ HK.out.mem).mono ?_); rintro e w4 ⟨rfl, hm4, hw4⟩; have HK := hid (HK.out.next hm4 hw4 HOLD.out); clear hm4 hw4; clear d0 d1 d2 d3 df o0 o1 o2 o3 of; obtain ⟨d0, d1, d2, d3, df⟩ := HK.out.box.facts; obtain ⟨o0, o1, o2, o3, of⟩ := HK.out.out.facts)
  refine bodyPost_ret (v := (BD.mk hk 9 hx (wrap64 (hx + more))).v) (by simp [results, Try.results149, go_sem, o0, o1, o2, o3, of]) rfl ?_
  exact ((HK.out.setP HOLD.out (wrap64 (hx + more))).setS HOLD.out 9).done HOLD.out _ _ rfl rfl rfl _ _ _ _

set_option maxRecDepth 100000 in
set_option maxHeartbeats 4000000 in
theorem put_even (h : BD) (p more : Int) (w : World) (B b : Nat) (vw : Value) (s : MS) (hm : Mem w B b vw s) (hok : ¬ s.okAt p h.x = true) (hkv : h.k = 3) :
    Calls Try.prog 149 #[.pointer (some ⟨b, 0, none⟩), h.v, .int .i64 p, .int .i64 more] w (BumpRet 106 2 ⟨h.k, 0, 0, h.p⟩ (s.swapped p h.x (wrap64 (h.x + more))) B b vw w) := by
  have HST := hid (BkAt.two 119 106 2 h hm)
  have HOLD := hid hm.young
  have HMO := hid (fun (x : World) (hb : Mem x B b vw s) => Swap_at p h.x (wrap64 (h.x + more)) x B b vw s hb)
  clear hm
  generalize s.swapped p h.x (wrap64 (h.x + more)) = s2 at *
  generalize s.okAt p h.x = ok at *
  generalize s.eAt p = ee at *
  generalize s.vAt p = y at *
  have hok2 : ok = false := by simpa using hok
  subst hok2
  clear hok
  obtain ⟨hk, hs, hx, hp⟩ := h
  simp only at hkv
  subst hkv
  show Calls _ _ #[_, .agg #[.int .i64 3, .int .i64 hs, .int .i64 hx, .int .i64 hp], _, _] _ _
  go_enter Try.func149, Try.ntmps149
  go_upto_region 1 with fail
  refine wp_rename _ HST.out ?_
  intro W hbk
  have HK := hid hbk
  obtain ⟨d0, d1, d2, d3, df⟩ := hbk.box.facts
  obtain ⟨o0, o1, o2, o3, of⟩ := hbk.out.facts
  clear hbk HST
  go_wp2_with (go_at_call 136; (with_reducible refine (HMO.out _ HK.out.mem).mono ?_); rintro e w4 ⟨rfl, hm4, hw4⟩; have HK := hid (HK.out.next hm4 hw4 HOLD.out); clear hm4 hw4; clear d0 d1 d2 d3 df o0 o1 o2 o3 of; obtain ⟨d0, d1, d2, d3, df⟩ := HK.out.box.facts; obtain ⟨o0, o1, o2, o3, of⟩ := HK.out.out.facts)
  refine bodyPost_ret (v := (BD.mk 3 0 0 hp).v) (by simp [results, Try.results149, go_sem, o0, o1, o2, o3, of]) rfl ?_
  exact ((HK.out.setX HOLD.out 0).setS HOLD.out 0).done HOLD.out _ _ rfl rfl rfl _ _ _ _

set_option maxRecDepth 100000 in
set_option maxHeartbeats 4000000 in
theorem put_join (h : BD) (p more : Int) (w : World) (B b : Nat) (vw : Value) (s : MS) (hm : Mem w B b vw s) (hok : ¬ s.okAt p h.x = true) (hkv : ¬ h.k = 3) :
    Calls Try.prog 149 #[.pointer (some ⟨b, 0, none⟩), h.v, .int .i64 p, .int .i64 more] w (BumpRet 106 2 ⟨h.k, 9, h.x, s.vAt p⟩ (s.swapped p h.x (wrap64 (h.x + more))) B b vw w) := by
  have HST := hid (BkAt.two 119 106 2 h hm)
  have HOLD := hid hm.young
  have HMO := hid (fun (x : World) (hb : Mem x B b vw s) => Swap_at p h.x (wrap64 (h.x + more)) x B b vw s hb)
  clear hm
  generalize s.swapped p h.x (wrap64 (h.x + more)) = s2 at *
  generalize s.okAt p h.x = ok at *
  generalize s.eAt p = ee at *
  generalize s.vAt p = y at *
  have hok2 : ok = false := by simpa using hok
  subst hok2
  clear hok
  obtain ⟨hk, hs, hx, hp⟩ := h
  simp only at hkv
  show Calls _ _ #[_, .agg #[.int .i64 hk, .int .i64 hs, .int .i64 hx, .int .i64 hp], _, _] _ _
  go_enter Try.func149, Try.ntmps149
  go_upto_region 1 with fail
  refine wp_rename _ HST.out ?_
  intro W hbk
  have HK := hid hbk
  obtain ⟨d0, d1, d2, d3, df⟩ := hbk.box.facts
  obtain ⟨o0, o1, o2, o3, of⟩ := hbk.out.facts
  clear hbk HST
  go_wp2_with (go_at_call 136; (with_reducible refine (HMO.out _ HK.out.mem).mono ?_); rintro e w4 ⟨rfl, hm4, hw4⟩; have HK := hid (HK.out.next hm4 hw4 HOLD.out); clear hm4 hw4; clear d0 d1 d2 d3 df o0 o1 o2 o3 of; obtain ⟨d0, d1, d2, d3, df⟩ := HK.out.box.facts; obtain ⟨o0, o1, o2, o3, of⟩ := HK.out.out.facts)
  refine bodyPost_ret (v := (BD.mk hk 9 hx y).v) (by simp [results, Try.results149, go_sem, o0, o1, o2, o3, of]) rfl ?_
  exact ((HK.out.setP HOLD.out y).setS HOLD.out 9).done HOLD.out _ _ rfl rfl rfl _ _ _ _

theorem put_any (h : BD) (p more : Int) (w : World) (B b : Nat) (vw : Value) (s : MS) (hm : Mem w B b vw s) :
    Calls Try.prog 149 #[.pointer (some ⟨b, 0, none⟩), h.v, .int .i64 p, .int .i64 more] w (BumpRet 106 2 (putF s h p more).1 (putF s h p more).2 B b vw w) := by
  unfold putF
  dsimp only
  by_cases c : s.okAt p h.x = true
  · rw [if_pos c]; exact put_yes h p more w B b vw s hm c
  · rw [if_neg c]
    by_cases o : h.k = 3
    · rw [if_pos o]; exact put_even h p more w B b vw s hm c o
    · rw [if_neg o]; exact put_join h p more w B b vw s hm c o

end Go.Proofs.Ytjfinnjmcnjciaa
