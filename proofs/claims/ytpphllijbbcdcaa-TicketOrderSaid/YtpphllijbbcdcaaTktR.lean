/-
  THE CONTRACTS of the document's own ticket lock.
-/
import Derived.Test.YtpphllijbbcdcaaTktD
namespace Go.Proofs.Ytpphllijbbcdcaa
open Go.RowKit
attribute [local go_sem] Later.cell Later.frozen

def mayHB (m : PM) (h : HD) : Bool := decide (mayH m h)
theorem mayHB_yes {m : PM} {h : HD} (k : mayH m h) : mayHB m h = true := decide_eq_true k
theorem mayHB_no {m : PM} {h : HD} (k : ¬ mayH m h) : mayHB m h = false := decide_eq_false k

set_option maxHeartbeats 2000000 in
theorem rMayH_any (m : PM) (h : HD) (w : World) :
    Calls Try.prog 37 #[m.v, h.v] w fun e w' => e = .returned (.bool (mayHB m h)) ∧ Below w.heap.size w w' := by
  have HM := hid (fun (x : World) => refMay_any m x)
  have HMP := hid (MapAt.new 35 w m)
  have HMH := hid (HandAt.new (w.alloc (.cells m.cells 35)) h)
  by_cases ho : m.Ok
  · have hy := pmayB_yes ho
    rcases (show h.t < 0 ∨ 0 ≤ h.t ∧ (m.t ≤ h.t ∨ h.t < m.t ∧ (h.l < 0 ∨ 0 ≤ h.l ∧ (m.l ≤ h.l ∨ h.l < m.l))) by omega) with h1 | ⟨h1, h2 | ⟨h2, h3 | ⟨h3, h4 | h4⟩⟩⟩
    · have HB := hid (mayHB_no (m := m) (h := h) fun k => by have := k.2.1; omega)
      rw [hy] at HM
      rw [HB.out]
      clear ho hy
      obtain ⟨s1, l, t, c, d⟩ := m
      obtain ⟨ht, hl, hs, hr, hx⟩ := h
      simp only at h1
      show Calls _ _ #[.agg #[.int .i64 s1, .int .i64 l, .int .i64 t, .int .i64 c, .int .i64 d], .agg #[.int .i64 ht, .int .i64 hl, .int .i64 hs, .bool hr, .int .i64 hx]] _ _
      go_enter Try.func37, Try.ntmps37
      go_wp2_with (go_at_call 49; (with_reducible refine (HM.out _).mono ?_); rintro e w1 ⟨rfl, hb1⟩; obtain ⟨hc1, hf1, hz1⟩ := bcell hb1 (size_alloc2 _ _ _); have HB1 := hid hb1; clear hb1)
      go_ret
      first | exact ⟨rfl, bthen (bnew (bnew (bid w) _) _) HB1.out⟩ | exact ⟨by show Ending.returned (.bool (decide (hl < l))) = _; first | rw [decide_eq_false (by omega)] | rw [decide_eq_true (by omega)], bthen (bnew (bnew (bid w) _) _) HB1.out⟩
    · have HB := hid (mayHB_no (m := m) (h := h) fun k => by have := k.2.2.1; omega)
      rw [hy] at HM
      rw [HB.out]
      clear ho hy
      obtain ⟨s1, l, t, c, d⟩ := m
      obtain ⟨ht, hl, hs, hr, hx⟩ := h
      simp only at h1 h2
      show Calls _ _ #[.agg #[.int .i64 s1, .int .i64 l, .int .i64 t, .int .i64 c, .int .i64 d], .agg #[.int .i64 ht, .int .i64 hl, .int .i64 hs, .bool hr, .int .i64 hx]] _ _
      go_enter Try.func37, Try.ntmps37
      go_wp2_with (go_at_call 49; (with_reducible refine (HM.out _).mono ?_); rintro e w1 ⟨rfl, hb1⟩; obtain ⟨hc1, hf1, hz1⟩ := bcell hb1 (size_alloc2 _ _ _); have HB1 := hid hb1; clear hb1)
      go_ret
      first | exact ⟨rfl, bthen (bnew (bnew (bid w) _) _) HB1.out⟩ | exact ⟨by show Ending.returned (.bool (decide (hl < l))) = _; first | rw [decide_eq_false (by omega)] | rw [decide_eq_true (by omega)], bthen (bnew (bnew (bid w) _) _) HB1.out⟩
    · have HB := hid (mayHB_no (m := m) (h := h) fun k => by have := k.2.2.2.1; omega)
      rw [hy] at HM
      rw [HB.out]
      clear ho hy
      obtain ⟨s1, l, t, c, d⟩ := m
      obtain ⟨ht, hl, hs, hr, hx⟩ := h
      simp only at h1 h2 h3
      show Calls _ _ #[.agg #[.int .i64 s1, .int .i64 l, .int .i64 t, .int .i64 c, .int .i64 d], .agg #[.int .i64 ht, .int .i64 hl, .int .i64 hs, .bool hr, .int .i64 hx]] _ _
      go_enter Try.func37, Try.ntmps37
      go_wp2_with (go_at_call 49; (with_reducible refine (HM.out _).mono ?_); rintro e w1 ⟨rfl, hb1⟩; obtain ⟨hc1, hf1, hz1⟩ := bcell hb1 (size_alloc2 _ _ _); have HB1 := hid hb1; clear hb1)
      go_ret
      first | exact ⟨rfl, bthen (bnew (bnew (bid w) _) _) HB1.out⟩ | exact ⟨by show Ending.returned (.bool (decide (hl < l))) = _; first | rw [decide_eq_false (by omega)] | rw [decide_eq_true (by omega)], bthen (bnew (bnew (bid w) _) _) HB1.out⟩
    · have HB := hid (mayHB_no (m := m) (h := h) fun k => by have := k.2.2.2.2; omega)
      rw [hy] at HM
      rw [HB.out]
      clear ho hy
      obtain ⟨s1, l, t, c, d⟩ := m
      obtain ⟨ht, hl, hs, hr, hx⟩ := h
      simp only at h1 h2 h3 h4
      show Calls _ _ #[.agg #[.int .i64 s1, .int .i64 l, .int .i64 t, .int .i64 c, .int .i64 d], .agg #[.int .i64 ht, .int .i64 hl, .int .i64 hs, .bool hr, .int .i64 hx]] _ _
      go_enter Try.func37, Try.ntmps37
      go_wp2_with (go_at_call 49; (with_reducible refine (HM.out _).mono ?_); rintro e w1 ⟨rfl, hb1⟩; obtain ⟨hc1, hf1, hz1⟩ := bcell hb1 (size_alloc2 _ _ _); have HB1 := hid hb1; clear hb1)
      go_ret
      first | exact ⟨rfl, bthen (bnew (bnew (bid w) _) _) HB1.out⟩ | exact ⟨by show Ending.returned (.bool (decide (hl < l))) = _; first | rw [decide_eq_false (by omega)] | rw [decide_eq_true (by omega)], bthen (bnew (bnew (bid w) _) _) HB1.out⟩
    · have HB := hid (mayHB_yes (m := m) (h := h) ⟨ho, h1, h2, h3, h4⟩)
      rw [hy] at HM
      rw [HB.out]
      clear ho hy
      obtain ⟨s1, l, t, c, d⟩ := m
      obtain ⟨ht, hl, hs, hr, hx⟩ := h
      simp only at h1 h2 h3 h4
      show Calls _ _ #[.agg #[.int .i64 s1, .int .i64 l, .int .i64 t, .int .i64 c, .int .i64 d], .agg #[.int .i64 ht, .int .i64 hl, .int .i64 hs, .bool hr, .int .i64 hx]] _ _
      go_enter Try.func37, Try.ntmps37
      go_wp2_with (go_at_call 49; (with_reducible refine (HM.out _).mono ?_); rintro e w1 ⟨rfl, hb1⟩; obtain ⟨hc1, hf1, hz1⟩ := bcell hb1 (size_alloc2 _ _ _); have HB1 := hid hb1; clear hb1)
      go_ret
      first | exact ⟨rfl, bthen (bnew (bnew (bid w) _) _) HB1.out⟩ | exact ⟨by show Ending.returned (.bool (decide (hl < l))) = _; first | rw [decide_eq_false (by omega)] | rw [decide_eq_true (by omega)], bthen (bnew (bnew (bid w) _) _) HB1.out⟩
  · have hy := pmayB_no ho
    have HB := hid (mayHB_no (m := m) (h := h) fun k => ho k.1)
    rw [hy] at HM
    rw [HB.out]
    clear ho hy
    obtain ⟨s1, l, t, c, d⟩ := m
    obtain ⟨ht, hl, hs, hr, hx⟩ := h
    show Calls _ _ #[.agg #[.int .i64 s1, .int .i64 l, .int .i64 t, .int .i64 c, .int .i64 d], .agg #[.int .i64 ht, .int .i64 hl, .int .i64 hs, .bool hr, .int .i64 hx]] _ _
    go_enter Try.func37, Try.ntmps37
    go_wp2_with (go_at_call 49; (with_reducible refine (HM.out _).mono ?_); rintro e w1 ⟨rfl, hb1⟩; obtain ⟨hc1, hf1, hz1⟩ := bcell hb1 (size_alloc2 _ _ _); have HB1 := hid hb1; clear hb1)
    go_ret
    exact ⟨rfl, bthen (bnew (bnew (bid w) _) _) HB1.out⟩

set_option maxHeartbeats 4000000 in
theorem rTake_any (m : PM) (h : HD) (w : World) (B b : Nat) (vw : Value) (s : MS) (hm : Ref w B b vw s) :
    Calls Try.prog 15 #[m.v, .pointer (some ⟨b, 0, none⟩), h.v] w (HandRet 48 2 (tkTake m s h).1 (tkTake m s h).2 B b vw w) := by
  have HST := hid (TkAt.start 48 35 2 m h h0 hm)
  have HOLD := hid hm.hold
  have HMY := hid (fun (x : World) => rMayH_any m h x)
  by_cases hmay : mayH m h
  · have hy := mayHB_yes hmay
    rw [hy] at HMY
    have HF := hid (show tkTake m s h = _ from by unfold tkTake; rw [if_pos hmay])
    clear hy hm hmay
    rcases (show h.s = 0 ∨ h.s = 1 ∨ (h.s ≠ 0 ∧ h.s ≠ 1) by omega) with hsv | hsv | hq
    · have HLK := hid (fun (x : World) => refLock_any m h.l 1 x)
      generalize m.at_ 3 h.l 1 = p1 at *
      generalize m.at_ 3 h.l 2 = p2 at *
      obtain ⟨s1, l, t, c, d⟩ := m
      obtain ⟨ht, hl, hs, hr, hx⟩ := h
      simp only at hsv
      subst hsv
      show Calls _ _ #[.agg #[.int .i64 s1, .int .i64 l, .int .i64 t, .int .i64 c, .int .i64 d], _, .agg #[.int .i64 ht, .int .i64 hl, .int .i64 0, .bool hr, .int .i64 hx]] _ _
      go_enter Try.func15, Try.ntmps15
      go_upto_region 1 with fail
      refine wp_rename _ HST.out ?_
      intro W hk
      have HK := hid hk
      obtain ⟨m0, m1, m2, m3, m4, _⟩ := hk.three.map.facts
      obtain ⟨d0, d1, d2, d3, d4, df⟩ := hk.three.box.facts
      clear hk HST
      have HLD := hid (fun (x : World) (hb : Ref x B b vw s) => rAdd_at p1 1 x B b vw s hb)
      generalize s.vAt p1 = y at *
      go_wp2_with (first | (go_at_call 37; (with_reducible refine (HMY.out _).mono ?_); rintro e w1 ⟨rfl, hb1⟩; have HK1 := hid (HK.out.below hb1); obtain ⟨e0, e1, e2, e3, e4, ef⟩ := HK1.out.three.box.facts; obtain ⟨m0, m1, m2, m3, m4, _⟩ := HK1.out.three.map.facts; obtain ⟨o0, o1, o2, o3, o4, of⟩ := HK1.out.three.out.facts; clear hb1) | (go_at_call 9; (with_reducible refine (HLK.out _).mono ?_); rintro e w2 ⟨rfl, hb2⟩; have HK2 := hid (HK1.out.below hb2); clear hb2 e0 e1 e2 e3 e4 ef m0 m1 m2 m3 m4 o0 o1 o2 o3 o4 of; obtain ⟨e0, e1, e2, e3, e4, ef⟩ := HK2.out.three.box.facts; obtain ⟨o0, o1, o2, o3, o4, of⟩ := HK2.out.three.out.facts) | (go_at_call 38; (with_reducible refine (HLD.out _ HK2.out.mem).mono ?_); rintro e w3 ⟨rfl, hm3, hw3⟩; have HK3 := hid (HK2.out.next hm3 hw3 HOLD.out); clear hm3 hw3 e0 e1 e2 e3 e4 ef o0 o1 o2 o3 o4 of; obtain ⟨e0, e1, e2, e3, e4, ef⟩ := HK3.out.three.box.facts; obtain ⟨o0, o1, o2, o3, o4, of⟩ := HK3.out.three.out.facts))
      refine bodyPost_ret (v := (HD.mk ht hl 1 hr y).v) (by simp [results, Try.results15, go_sem, o0, o1, o2, o3, o4, of]) rfl ?_
      exact ((HK3.out.setX HOLD.out y).setS HOLD.out 1).done HOLD.out _ _ (by rw [HF.out]; simp) (by rw [HF.out]; simp) rfl _ _ _ _ _
    · have HLK := hid (fun (x : World) => refLock_any m h.l 2 x)
      generalize m.at_ 3 h.l 1 = p1 at *
      generalize m.at_ 3 h.l 2 = p2 at *
      obtain ⟨s1, l, t, c, d⟩ := m
      obtain ⟨ht, hl, hs, hr, hx⟩ := h
      simp only at hsv
      subst hsv
      show Calls _ _ #[.agg #[.int .i64 s1, .int .i64 l, .int .i64 t, .int .i64 c, .int .i64 d], _, .agg #[.int .i64 ht, .int .i64 hl, .int .i64 1, .bool hr, .int .i64 hx]] _ _
      go_enter Try.func15, Try.ntmps15
      go_upto_region 1 with fail
      refine wp_rename _ HST.out ?_
      intro W hk
      have HK := hid hk
      obtain ⟨m0, m1, m2, m3, m4, _⟩ := hk.three.map.facts
      obtain ⟨d0, d1, d2, d3, d4, df⟩ := hk.three.box.facts
      clear hk HST
      have HLD := hid (fun (x : World) (hb : Ref x B b vw s) => rLoad_at p2 x B b vw s hb)
      by_cases hv : s.vAt p2 = hx
      · have HV := hid hv
        generalize s.vAt p2 = y at *
        subst hv
        go_wp2_with (first | (go_at_call 37; (with_reducible refine (HMY.out _).mono ?_); rintro e w1 ⟨rfl, hb1⟩; have HK1 := hid (HK.out.below hb1); obtain ⟨e0, e1, e2, e3, e4, ef⟩ := HK1.out.three.box.facts; obtain ⟨m0, m1, m2, m3, m4, _⟩ := HK1.out.three.map.facts; obtain ⟨o0, o1, o2, o3, o4, of⟩ := HK1.out.three.out.facts; clear hb1) | (go_at_call 9; (with_reducible refine (HLK.out _).mono ?_); rintro e w2 ⟨rfl, hb2⟩; have HK2 := hid (HK1.out.below hb2); clear hb2 e0 e1 e2 e3 e4 ef m0 m1 m2 m3 m4 o0 o1 o2 o3 o4 of; obtain ⟨e0, e1, e2, e3, e4, ef⟩ := HK2.out.three.box.facts; obtain ⟨o0, o1, o2, o3, o4, of⟩ := HK2.out.three.out.facts) | (go_at_call 39; (with_reducible refine (HLD.out _ HK2.out.mem).mono ?_); rintro e w3 ⟨rfl, hm3, hw3⟩; have HK3 := hid (HK2.out.next hm3 hw3 HOLD.out); clear hm3 hw3 e0 e1 e2 e3 e4 ef o0 o1 o2 o3 o4 of; obtain ⟨e0, e1, e2, e3, e4, ef⟩ := HK3.out.three.box.facts; obtain ⟨o0, o1, o2, o3, o4, of⟩ := HK3.out.three.out.facts))
        refine bodyPost_ret (v := (HD.mk ht hl 9 hr y).v) (by simp [results, Try.results15, go_sem, o0, o1, o2, o3, o4, of]) rfl ?_
        exact (HK3.out.setS HOLD.out 9).done HOLD.out _ _ (by rw [HF.out]; simp) (by rw [HF.out]; simp) rfl _ _ _ _ _
      · have HV := hid hv
        generalize s.vAt p2 = y at *
        go_wp2_with (first | (go_at_call 37; (with_reducible refine (HMY.out _).mono ?_); rintro e w1 ⟨rfl, hb1⟩; have HK1 := hid (HK.out.below hb1); obtain ⟨e0, e1, e2, e3, e4, ef⟩ := HK1.out.three.box.facts; obtain ⟨m0, m1, m2, m3, m4, _⟩ := HK1.out.three.map.facts; obtain ⟨o0, o1, o2, o3, o4, of⟩ := HK1.out.three.out.facts; clear hb1) | (go_at_call 9; (with_reducible refine (HLK.out _).mono ?_); rintro e w2 ⟨rfl, hb2⟩; have HK2 := hid (HK1.out.below hb2); clear hb2 e0 e1 e2 e3 e4 ef m0 m1 m2 m3 m4 o0 o1 o2 o3 o4 of; obtain ⟨e0, e1, e2, e3, e4, ef⟩ := HK2.out.three.box.facts; obtain ⟨o0, o1, o2, o3, o4, of⟩ := HK2.out.three.out.facts) | (go_at_call 39; (with_reducible refine (HLD.out _ HK2.out.mem).mono ?_); rintro e w3 ⟨rfl, hm3, hw3⟩; have HK3 := hid (HK2.out.next hm3 hw3 HOLD.out); clear hm3 hw3 e0 e1 e2 e3 e4 ef o0 o1 o2 o3 o4 of; obtain ⟨e0, e1, e2, e3, e4, ef⟩ := HK3.out.three.box.facts; obtain ⟨o0, o1, o2, o3, o4, of⟩ := HK3.out.three.out.facts))
        refine bodyPost_ret (v := (HD.mk ht hl 1 hr hx).v) (by simp [results, Try.results15, go_sem, o0, o1, o2, o3, o4, of]) rfl ?_
        exact HK3.out.done HOLD.out _ _ (by rw [HF.out]; simp [HV.out]) (by rw [HF.out]; simp) rfl _ _ _ _ _
    · obtain ⟨q0, q1⟩ := hq
      have HF' := hid (show tkTake m s h = (h, s) from by rw [HF.out]; simp [q0, q1])
      clear HF
      generalize m.at_ 3 h.l 1 = p1 at *
      generalize m.at_ 3 h.l 2 = p2 at *
      obtain ⟨s1, l, t, c, d⟩ := m
      obtain ⟨ht, hl, hs, hr, hx⟩ := h
      show Calls _ _ #[.agg #[.int .i64 s1, .int .i64 l, .int .i64 t, .int .i64 c, .int .i64 d], _, .agg #[.int .i64 ht, .int .i64 hl, .int .i64 hs, .bool hr, .int .i64 hx]] _ _
      go_enter Try.func15, Try.ntmps15
      go_upto_region 1 with fail
      refine wp_rename _ HST.out ?_
      intro W hk
      have HK := hid hk
      obtain ⟨m0, m1, m2, m3, m4, _⟩ := hk.three.map.facts
      obtain ⟨d0, d1, d2, d3, d4, df⟩ := hk.three.box.facts
      clear hk HST
      simp only at q0 q1
      go_wp2_with (first | (go_at_call 37; (with_reducible refine (HMY.out _).mono ?_); rintro e w1 ⟨rfl, hb1⟩; have HK1 := hid (HK.out.below hb1); obtain ⟨e0, e1, e2, e3, e4, ef⟩ := HK1.out.three.box.facts; obtain ⟨m0, m1, m2, m3, m4, _⟩ := HK1.out.three.map.facts; obtain ⟨o0, o1, o2, o3, o4, of⟩ := HK1.out.three.out.facts; clear hb1))
      refine bodyPost_ret (v := (HD.mk ht hl hs hr hx).v) (by simp [results, Try.results15, go_sem, o0, o1, o2, o3, o4, of]) rfl ?_
      exact HK1.out.done HOLD.out _ _ (by rw [HF'.out]) (by rw [HF'.out]) rfl _ _ _ _ _
  · have hy := mayHB_no hmay
    rw [hy] at HMY
    have HF := hid (show tkTake m s h = (h, s) from by unfold tkTake; rw [if_neg hmay])
    clear hy hm hmay
    obtain ⟨s1, l, t, c, d⟩ := m
    obtain ⟨ht, hl, hs, hr, hx⟩ := h
    show Calls _ _ #[.agg #[.int .i64 s1, .int .i64 l, .int .i64 t, .int .i64 c, .int .i64 d], _, .agg #[.int .i64 ht, .int .i64 hl, .int .i64 hs, .bool hr, .int .i64 hx]] _ _
    go_enter Try.func15, Try.ntmps15
    go_upto_region 1 with fail
    refine wp_rename _ HST.out ?_
    intro W hk
    have HK := hid hk
    obtain ⟨m0, m1, m2, m3, m4, _⟩ := hk.three.map.facts
    obtain ⟨d0, d1, d2, d3, d4, df⟩ := hk.three.box.facts
    clear hk HST
    go_wp2_with (first | (go_at_call 37; (with_reducible refine (HMY.out _).mono ?_); rintro e w1 ⟨rfl, hb1⟩; have HK1 := hid (HK.out.below hb1); obtain ⟨e0, e1, e2, e3, e4, ef⟩ := HK1.out.three.box.facts; obtain ⟨m0, m1, m2, m3, m4, _⟩ := HK1.out.three.map.facts; obtain ⟨o0, o1, o2, o3, o4, of⟩ := HK1.out.three.out.facts; clear hb1))
    refine bodyPost_ret (v := (HD.mk ht hl hs hr hx).v) (by simp [results, Try.results15, go_sem, o0, o1, o2, o3, o4, of]) rfl ?_
    exact HK1.out.done HOLD.out _ _ (by rw [HF.out]) (by rw [HF.out]) rfl _ _ _ _ _

set_option maxHeartbeats 4000000 in
theorem rDrop_any (m : PM) (h : HD) (w : World) (B b : Nat) (vw : Value) (s : MS) (hm : Ref w B b vw s) :
    Calls Try.prog 20 #[m.v, .pointer (some ⟨b, 0, none⟩), h.v] w (HandRet 48 2 (tkDrop m s h).1 (tkDrop m s h).2 B b vw w) := by
  have HST := hid (TkAt.start 48 35 2 m h h0 hm)
  have HOLD := hid hm.hold
  have HMY := hid (fun (x : World) => rMayH_any m h x)
  by_cases hmay : mayH m h
  · have hy := mayHB_yes hmay
    rw [hy] at HMY
    by_cases hsv : h.s = 9
    · have HF := hid (show tkDrop m s h = _ from by unfold tkDrop; rw [if_pos ⟨hmay, hsv⟩])
      clear hy hm hmay
      have HLK := hid (fun (x : World) => refLock_any m h.l 2 x)
      generalize m.at_ 3 h.l 2 = p2 at *
      obtain ⟨s1, l, t, c, d⟩ := m
      obtain ⟨ht, hl, hs, hr, hx⟩ := h
      simp only at hsv
      subst hsv
      show Calls _ _ #[.agg #[.int .i64 s1, .int .i64 l, .int .i64 t, .int .i64 c, .int .i64 d], _, .agg #[.int .i64 ht, .int .i64 hl, .int .i64 9, .bool hr, .int .i64 hx]] _ _
      go_enter Try.func20, Try.ntmps20
      go_upto_region 1 with fail
      refine wp_rename _ HST.out ?_
      intro W hk
      have HK := hid hk
      obtain ⟨m0, m1, m2, m3, m4, _⟩ := hk.three.map.facts
      obtain ⟨d0, d1, d2, d3, d4, df⟩ := hk.three.box.facts
      clear hk HST
      have HLD := hid (fun (x : World) (hb : Ref x B b vw s) => rStore_at p2 (wrap64 (hx + 1)) x B b vw s hb)
      go_upto_region 3 with (first | (go_at_call 37; (with_reducible refine (HMY.out _).mono ?_); rintro e w1 ⟨rfl, hb1⟩; have HK1 := hid (HK.out.below hb1); obtain ⟨e0, e1, e2, e3, e4, ef⟩ := HK1.out.three.box.facts; obtain ⟨m0, m1, m2, m3, m4, _⟩ := HK1.out.three.map.facts; obtain ⟨o0, o1, o2, o3, o4, of⟩ := HK1.out.three.out.facts; clear hb1))
      have z0 := HK1.out.three.map.lt
      have z1 := HK1.out.three.box.lt
      refine wp_region_later_tail 8 (by kernel_rfl) (by kernel_rfl) ?_
      simp only [List.take_succ_cons, List.take_zero, List.drop_succ_cons, List.drop_zero]
      repeat (go_big_quiet_step ((go_at_call 9; with_reducible exact later_call (HLK.out _))))
      refine wpQuiet_nil ?_
      rintro _ ⟨x, rfl⟩
      have HK2 := hid (HK1.out.below x.below)
      clear e0 e1 e2 e3 e4 ef m0 m1 m2 m3 m4 o0 o1 o2 o3 o4 of
      go_wp2_with ((go_at_call 12; (with_reducible refine (HLD.out _ HK2.out.mem).mono ?_); rintro e w3 ⟨rfl, hm3, hw3⟩; have HK3 := hid (HK2.out.next hm3 hw3 HOLD.out); clear hm3 hw3; obtain ⟨e0, e1, e2, e3, e4, ef⟩ := HK3.out.three.box.facts; obtain ⟨o0, o1, o2, o3, o4, of⟩ := HK3.out.three.out.facts))
      refine bodyPost_ret (v := (HD.mk ht hl 0 hr 0).v) (by simp [results, Try.results20, go_sem, o0, o1, o2, o3, o4, of]) rfl ?_
      exact ((HK3.out.setS HOLD.out 0).setX HOLD.out 0).done HOLD.out _ _ (by rw [HF.out]) (by rw [HF.out]) rfl _ _ _ _ _
    · have hb9 : (h.s != 9) = true := by simp [hsv]
      have HF := hid (show tkDrop m s h = (h, s) from by unfold tkDrop; rw [if_neg fun k => hsv k.2])
      clear hy hm hmay
      obtain ⟨s1, l, t, c, d⟩ := m
      obtain ⟨ht, hl, hs, hr, hx⟩ := h
      show Calls _ _ #[.agg #[.int .i64 s1, .int .i64 l, .int .i64 t, .int .i64 c, .int .i64 d], _, .agg #[.int .i64 ht, .int .i64 hl, .int .i64 hs, .bool hr, .int .i64 hx]] _ _
      go_enter Try.func20, Try.ntmps20
      go_upto_region 1 with fail
      refine wp_rename _ HST.out ?_
      intro W hk
      have HK := hid hk
      obtain ⟨m0, m1, m2, m3, m4, _⟩ := hk.three.map.facts
      obtain ⟨d0, d1, d2, d3, d4, df⟩ := hk.three.box.facts
      clear hk HST
      simp only at hsv hb9
      go_wp2_with (first | (go_at_call 37; (with_reducible refine (HMY.out _).mono ?_); rintro e w1 ⟨rfl, hb1⟩; have HK1 := hid (HK.out.below hb1); obtain ⟨e0, e1, e2, e3, e4, ef⟩ := HK1.out.three.box.facts; obtain ⟨m0, m1, m2, m3, m4, _⟩ := HK1.out.three.map.facts; obtain ⟨o0, o1, o2, o3, o4, of⟩ := HK1.out.three.out.facts; clear hb1))
      refine bodyPost_ret (v := (HD.mk ht hl hs hr hx).v) (by simp [results, Try.results20, go_sem, o0, o1, o2, o3, o4, of]) rfl ?_
      exact HK1.out.done HOLD.out _ _ (by rw [HF.out]) (by rw [HF.out]) rfl _ _ _ _ _
  · have hy := mayHB_no hmay
    rw [hy] at HMY
    have HF := hid (show tkDrop m s h = (h, s) from by unfold tkDrop; rw [if_neg fun k => hmay k.1])
    clear hy hm hmay
    obtain ⟨s1, l, t, c, d⟩ := m
    obtain ⟨ht, hl, hs, hr, hx⟩ := h
    show Calls _ _ #[.agg #[.int .i64 s1, .int .i64 l, .int .i64 t, .int .i64 c, .int .i64 d], _, .agg #[.int .i64 ht, .int .i64 hl, .int .i64 hs, .bool hr, .int .i64 hx]] _ _
    go_enter Try.func20, Try.ntmps20
    go_upto_region 1 with fail
    refine wp_rename _ HST.out ?_
    intro W hk
    have HK := hid hk
    obtain ⟨m0, m1, m2, m3, m4, _⟩ := hk.three.map.facts
    obtain ⟨d0, d1, d2, d3, d4, df⟩ := hk.three.box.facts
    clear hk HST
    go_wp2_with (first | (go_at_call 37; (with_reducible refine (HMY.out _).mono ?_); rintro e w1 ⟨rfl, hb1⟩; have HK1 := hid (HK.out.below hb1); obtain ⟨e0, e1, e2, e3, e4, ef⟩ := HK1.out.three.box.facts; obtain ⟨m0, m1, m2, m3, m4, _⟩ := HK1.out.three.map.facts; obtain ⟨o0, o1, o2, o3, o4, of⟩ := HK1.out.three.out.facts; clear hb1))
    refine bodyPost_ret (v := (HD.mk ht hl hs hr hx).v) (by simp [results, Try.results20, go_sem, o0, o1, o2, o3, o4, of]) rfl ?_
    exact HK1.out.done HOLD.out _ _ (by rw [HF.out]) (by rw [HF.out]) rfl _ _ _ _ _

set_option maxHeartbeats 4000000 in
theorem rIdle_any (m : PM) (lo : Int) (w : World) (B b : Nat) (vw : Value) (s : MS) (hm : Ref w B b vw s) :
    Calls Try.prog 24 #[m.v, .pointer (some ⟨b, 0, none⟩), .int .i64 lo] w fun e w' => e = .returned (.bool (tkIdle m s lo)) ∧ Below w.heap.size w w' := by
  have HM := hid (fun (x : World) (hb : Below w.heap.size w x) => (hm.kept (Wrote.of_below hb (fun _ => False)) (fun _ _ h => h) : Ref x B b vw s))
  have HL1 := hid (fun (x : World) => refLock_any m lo 1 x)
  have HL2 := hid (fun (x : World) => refLock_any m lo 2 x)
  have HP := hid (fun (x : World) (p : Int) (hb : Below w.heap.size w x) => rPeek_at p x B b vw s (HM.out x hb))
  clear hm
  by_cases hp : 0 ≤ m.at_ 3 lo 1
  · have HF := hid (show tkIdle m s lo = (s.vAt (m.at_ 3 lo 1) == s.vAt (m.at_ 3 lo 2)) from by simp [tkIdle, hp])
    rw [HF.out]
    generalize m.at_ 3 lo 1 = p1 at *
    generalize m.at_ 3 lo 2 = p2 at *
    have HP1 := hid (fun (x : World) (hb : Below w.heap.size w x) => HP.out x p1 hb)
    have HP2 := hid (fun (x : World) (hb : Below w.heap.size w x) => HP.out x p2 hb)
    generalize s.vAt p1 = y1 at *
    generalize s.vAt p2 = y2 at *
    clear HF
    obtain ⟨s1, l, t, c, d⟩ := m
    show Calls _ _ #[.agg #[.int .i64 s1, .int .i64 l, .int .i64 t, .int .i64 c, .int .i64 d], _, _] _ _
    go_enter Try.func24, Try.ntmps24
    go_upto_region 2 with (go_at_call 9; (with_reducible refine (HL1.out _).mono ?_); rintro e w1 ⟨rfl, hb1⟩; obtain ⟨hc1, hf1, hz1⟩ := bcell hb1 (size_alloc1 _ _); have HB1 := hid (bthen (bnew (bid w) _) hb1); clear hb1)
    have hz2 : w.heap.size < w1.heap.size := hz1
    refine wp_region_later (by kernel_rfl) (by kernel_rfl) ?_
    repeat (go_big_quiet_step (first | (go_at_call 9; with_reducible exact later_call (HL2.out _)) | (go_at_call 44; first | (with_reducible exact later_same (HP1.out _ (bthen HB1.out (Later.below _)))) | (with_reducible exact later_same (HP2.out _ (bthen HB1.out (Later.below _)))))))
    refine wpQuiet_nil ?_
    rintro _ ⟨x, rfl⟩
    go_wp2
    go_ret
    exact ⟨rfl, bthen HB1.out x.below⟩
  · have HF := hid (show tkIdle m s lo = false from by simp [tkIdle, hp])
    rw [HF.out]
    generalize m.at_ 3 lo 1 = p1 at *
    generalize m.at_ 3 lo 2 = p2 at *
    clear HF HP
    have hd : decide (0 ≤ p1) = false := decide_eq_false hp
    obtain ⟨s1, l, t, c, d⟩ := m
    show Calls _ _ #[.agg #[.int .i64 s1, .int .i64 l, .int .i64 t, .int .i64 c, .int .i64 d], _, _] _ _
    go_enter Try.func24, Try.ntmps24
    go_upto_region 2 with (go_at_call 9; (with_reducible refine (HL1.out _).mono ?_); rintro e w1 ⟨rfl, hb1⟩; obtain ⟨hc1, hf1, hz1⟩ := bcell hb1 (size_alloc1 _ _); have HB1 := hid (bthen (bnew (bid w) _) hb1); clear hb1)
    refine wp_region_later (by kernel_rfl) (by kernel_rfl) ?_
    repeat (go_big_quiet_step (fail))
    refine wpQuiet_nil ?_
    rintro _ ⟨x, rfl⟩
    go_wp2
    go_ret
    exact ⟨rfl, bthen HB1.out x.below⟩

end Go.Proofs.Ytpphllijbbcdcaa
