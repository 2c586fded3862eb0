/-
  THE CONTRACTS of ticket.Drop and Idle.
-/
import Derived.Test.YtpphllijbbcdcaaTktT
namespace Go.Proofs.Ytpphllijbbcdcaa
open Go.RowKit
attribute [local go_sem] Later.cell Later.frozen

set_option maxHeartbeats 4000000 in
theorem Drop_any (m : PM) (h : HD) (w : World) (B b : Nat) (vw : Value) (s : MS) (hm : Mem w B b vw s) (hz : m.size ≤ (s.zs.length : Int)) (ho : m.Ok) :
    Calls Try.prog 19 #[m.v, .pointer (some ⟨b, 0, none⟩), h.v] w (HandRet 65 2 (tkDrop m s h).1 (tkDrop m s h).2 B b vw w) := by
  have HAI := hid (fun (x : World) (hb : Mem x B b vw s) => aim_any m h x B b vw s hb hz ho)
  have HST := hid (TkAt.start 65 26 2 m h h0 hm)
  have HOLD := hid hm.hold
  by_cases hn : (aimF m h).1 < 0
  · have HR := hid (aim_neg (s := s) hn ho).2
    generalize haf : aimF m h = af at *
    obtain ⟨ax, ay⟩ := af
    simp only at hn HAI
    clear hm hz ho haf
    obtain ⟨s1, l, t, c, d⟩ := m
    obtain ⟨ht, hl, hs, hr, hx⟩ := h
    show Calls _ _ #[.agg #[.int .i64 s1, .int .i64 l, .int .i64 t, .int .i64 c, .int .i64 d], _, .agg #[.int .i64 ht, .int .i64 hl, .int .i64 hs, .bool hr, .int .i64 hx]] _ _
    go_enter Try.func19, Try.ntmps19
    go_upto_region 1 with fail
    refine wp_rename _ HST.out ?_
    intro W hk
    have HK := hid hk
    obtain ⟨m0, m1, m2, m3, m4, _⟩ := hk.three.map.facts
    obtain ⟨d0, d1, d2, d3, d4, df⟩ := hk.three.box.facts
    clear hk HST
    go_wp2_with ((go_at_call 34; (with_reducible refine (HAI.out _ HK.out.mem).mono ?_); rintro e w1 ⟨rfl, hb1⟩; have HK1 := hid (HK.out.below hb1); obtain ⟨e0, e1, e2, e3, e4, ef⟩ := HK1.out.three.box.facts; obtain ⟨o0, o1, o2, o3, o4, of⟩ := HK1.out.three.out.facts; clear hb1))
    refine bodyPost_ret (v := (HD.mk ht hl hs hr hx).v) (by simp [results, Try.results19, go_sem, o0, o1, o2, o3, o4, of]) rfl ?_
    exact HK1.out.done HOLD.out _ _ (by rw [HR.out]) (by rw [HR.out]) rfl _ _ _ _ _
  · obtain ⟨hmay, haf⟩ := aim_pos (Int.not_lt.1 hn) ho
    by_cases h9 : h.s = 9
    · rcases haf with ⟨_, haf⟩ | ⟨hsv, _⟩ | ⟨hsv, _⟩
      · have hp2 := (lock_in hmay (p := 2) (by decide) (by decide)).2.1
        rw [haf] at HAI
        have HF := hid (show tkDrop m s h = _ from by unfold tkDrop; rw [if_pos ⟨hmay, h9⟩])
        generalize m.at_ 3 h.l 2 = p2 at *
        clear hmay haf hn hm hz ho
        obtain ⟨s1, l, t, c, d⟩ := m
        obtain ⟨ht, hl, hs, hr, hx⟩ := h
        simp only at h9
        subst h9
        show Calls _ _ #[.agg #[.int .i64 s1, .int .i64 l, .int .i64 t, .int .i64 c, .int .i64 d], _, .agg #[.int .i64 ht, .int .i64 hl, .int .i64 9, .bool hr, .int .i64 hx]] _ _
        go_enter Try.func19, Try.ntmps19
        go_upto_region 1 with fail
        refine wp_rename _ HST.out ?_
        intro W hk
        have HK := hid hk
        obtain ⟨m0, m1, m2, m3, m4, _⟩ := hk.three.map.facts
        obtain ⟨d0, d1, d2, d3, d4, df⟩ := hk.three.box.facts
        clear hk HST
        have HLD := hid (fun (x : World) (hb : Mem x B b vw s) => Store_at p2 (wrap64 (hx + 1)) x B b vw s hb)
        go_wp2_with (first | (go_at_call 34; (with_reducible refine (HAI.out _ HK.out.mem).mono ?_); rintro e w1 ⟨rfl, hb1⟩; have HK1 := hid (HK.out.below hb1); obtain ⟨e0, e1, e2, e3, e4, ef⟩ := HK1.out.three.box.facts; obtain ⟨o0, o1, o2, o3, o4, of⟩ := HK1.out.three.out.facts; clear hb1) | (go_at_call 11; (with_reducible refine (HLD.out _ HK1.out.mem).mono ?_); rintro e w2 ⟨rfl, hm2, hw2⟩; have HK2 := hid (HK1.out.next hm2 hw2 HOLD.out); clear hm2 hw2 e0 e1 e2 e3 e4 ef o0 o1 o2 o3 o4 of; obtain ⟨e0, e1, e2, e3, e4, ef⟩ := HK2.out.three.box.facts; obtain ⟨o0, o1, o2, o3, o4, of⟩ := HK2.out.three.out.facts))
        refine bodyPost_ret (v := (HD.mk ht hl 0 hr 0).v) (by simp [results, Try.results19, go_sem, o0, o1, o2, o3, o4, of]) rfl ?_
        exact ((HK2.out.setS HOLD.out 0).setX HOLD.out 0).done HOLD.out _ _ (by rw [HF.out]) (by rw [HF.out]) rfl _ _ _ _ _
      · omega
      · omega
    · have HR := hid (show tkDrop m s h = (h, s) from by unfold tkDrop; rw [if_neg fun k => h9 k.2])
      generalize haf' : aimF m h = af at *
      obtain ⟨ax, ay⟩ := af
      simp only at hn HAI
      clear hm hz ho haf' haf hmay
      obtain ⟨s1, l, t, c, d⟩ := m
      obtain ⟨ht, hl, hs, hr, hx⟩ := h
      simp only at h9
      have hb9 : (hs != 9) = true := by simp [h9]
      show Calls _ _ #[.agg #[.int .i64 s1, .int .i64 l, .int .i64 t, .int .i64 c, .int .i64 d], _, .agg #[.int .i64 ht, .int .i64 hl, .int .i64 hs, .bool hr, .int .i64 hx]] _ _
      go_enter Try.func19, Try.ntmps19
      go_upto_region 1 with fail
      refine wp_rename _ HST.out ?_
      intro W hk
      have HK := hid hk
      obtain ⟨m0, m1, m2, m3, m4, _⟩ := hk.three.map.facts
      obtain ⟨d0, d1, d2, d3, d4, df⟩ := hk.three.box.facts
      clear hk HST
      go_wp2_with ((go_at_call 34; (with_reducible refine (HAI.out _ HK.out.mem).mono ?_); rintro e w1 ⟨rfl, hb1⟩; have HK1 := hid (HK.out.below hb1); obtain ⟨e0, e1, e2, e3, e4, ef⟩ := HK1.out.three.box.facts; obtain ⟨o0, o1, o2, o3, o4, of⟩ := HK1.out.three.out.facts; clear hb1))
      refine bodyPost_ret (v := (HD.mk ht hl hs hr hx).v) (by simp [results, Try.results19, go_sem, o0, o1, o2, o3, o4, of]) rfl ?_
      exact HK1.out.done HOLD.out _ _ (by rw [HR.out]) (by rw [HR.out]) rfl _ _ _ _ _

set_option maxHeartbeats 4000000 in
theorem Take_nil (m : PM) (h : HD) (w : World) (ho : m.Ok) :
    Calls Try.prog 14 #[m.v, .pointer none, h.v] w fun e w' => e = .returned h.v ∧ Below w.heap.size w w' := by
  have HAI := hid (fun (x : World) => aim_nil m h x ho)
  have HST := hid (Three.new 26 w m h h0)
  have HBB := hid (bnew (bnew (bnew (bid w) (.cells m.cells 26)) (.cells h.cells 24)) (.cells h0.cells 24))
  clear ho
  obtain ⟨s1, l, t, c, d⟩ := m
  obtain ⟨ht, hl, hs, hr, hx⟩ := h
  show Calls _ _ #[.agg #[.int .i64 s1, .int .i64 l, .int .i64 t, .int .i64 c, .int .i64 d], _, .agg #[.int .i64 ht, .int .i64 hl, .int .i64 hs, .bool hr, .int .i64 hx]] _ _
  go_enter Try.func14, Try.ntmps14
  go_upto_region 1 with fail
  refine wp_rename (fun W => Three 26 w _ _ h0 W ∧ Below w.heap.size w W) ⟨HST.out, HBB.out⟩ ?_
  rintro W ⟨hk, hb⟩
  have HK := hid hk
  have HB := hid hb
  obtain ⟨m0, m1, m2, m3, m4, _⟩ := hk.map.facts
  obtain ⟨d0, d1, d2, d3, d4, df⟩ := hk.box.facts
  clear hk HST HBB hb
  go_wp2_with (go_at_call 34; (with_reducible refine (HAI.out _).mono ?_); rintro e w1 ⟨rfl, hb1⟩; have HK1 := hid (HK.out.below hb1); have HB1 := hid (bthen HB.out hb1); obtain ⟨e0, e1, e2, e3, e4, ef⟩ := HK1.out.box.facts; obtain ⟨o0, o1, o2, o3, o4, of⟩ := HK1.out.out.facts; clear hb1)
  refine bodyPost_ret (v := (HD.mk ht hl hs hr hx).v) (by simp [results, Try.results14, go_sem, o0, o1, o2, o3, o4, of]) rfl ⟨rfl, ?_⟩
  exact ((Wrote.of_below HB1.out (fun _ => False)).set5 (fun h => by omega) _ _ _ _ _).below (Nat.le_refl _) (fun _ _ h => h)

/-- Whether the lock is idle. -/
def tkIdle (m : PM) (s : MS) (l : Int) : Bool := decide (0 ≤ m.at_ 3 l 1) && (s.vAt (m.at_ 3 l 1) == s.vAt (m.at_ 3 l 2))

set_option maxHeartbeats 4000000 in
theorem Idle_any (m : PM) (lo : Int) (w : World) (B b : Nat) (vw : Value) (s : MS) (hm : Mem w B b vw s) (hz : m.size ≤ (s.zs.length : Int)) :
    Calls Try.prog 23 #[m.v, .pointer (some ⟨b, 0, none⟩), .int .i64 lo] w fun e w' => e = .returned (.bool (tkIdle m s lo)) ∧ Below w.heap.size w w' := by
  have HM := hid (fun (x : World) (hb : Below w.heap.size w x) => (hm.kept (Wrote.of_below hb (fun _ => False)) (fun _ _ h => h) : Mem x B b vw s))
  have HW := hid (fun (x : World) (hb : Below w.heap.size w x) => whole_yes m x B b vw s (HM.out x hb) hz)
  have HL1 := hid (fun (x : World) => Lock_any m lo 1 x)
  have HL2 := hid (fun (x : World) => Lock_any m lo 2 x)
  have HP := hid (fun (x : World) (p : Int) (hb : Below w.heap.size w x) => Peek_at p x B b vw s (HM.out x hb))
  clear hm hz
  by_cases hp : 0 ≤ m.at_ 3 lo 1
  · have HF := hid (show tkIdle m s lo = (s.vAt (m.at_ 3 lo 1) == s.vAt (m.at_ 3 lo 2)) from by simp [tkIdle, hp])
    rw [HF.out]
    generalize m.at_ 3 lo 1 = p1 at *
    generalize m.at_ 3 lo 2 = p2 at *
    generalize hy1 : s.vAt p1 = y1 at *
    generalize hy2 : s.vAt p2 = y2 at *
    have HY := hid (And.intro hy1 hy2)
    clear hy1 hy2 HF
    obtain ⟨s1, l, t, c, d⟩ := m
    show Calls _ _ #[.agg #[.int .i64 s1, .int .i64 l, .int .i64 t, .int .i64 c, .int .i64 d], _, _] _ _
    go_enter Try.func23, Try.ntmps23
    go_wp2_with fail
    refine wp_region_later (by kernel_rfl) (by kernel_rfl) ?_
    repeat (go_big_quiet_step ((go_at_call 27; first | (with_reducible exact later_call (HL1.out _)) | (with_reducible exact later_call (HL2.out _)))))
    refine wpQuiet_nil ?_
    rintro _ ⟨x, rfl⟩
    have HX := hid (bthen (bnew (bid w) _) x.below)
    go_wp2_with (first | (go_at_call 43; (with_reducible refine (HW.out _ HX.out).mono ?_); rintro e w1 ⟨rfl, hb1⟩; have HB1 := hid (bthen HX.out hb1); clear hb1) | (go_at_call 26; (with_reducible refine (HP.out _ _ HB1.out).mono ?_); (first | rw [HY.out.1] | rw [HY.out.2]); rintro e w2 ⟨rfl, rfl⟩))
    go_ret
    exact ⟨rfl, HB1.out⟩
  · have HF := hid (show tkIdle m s lo = false from by simp [tkIdle, hp])
    rw [HF.out]
    generalize m.at_ 3 lo 1 = p1 at *
    generalize m.at_ 3 lo 2 = p2 at *
    clear HF HW HP
    obtain ⟨s1, l, t, c, d⟩ := m
    show Calls _ _ #[.agg #[.int .i64 s1, .int .i64 l, .int .i64 t, .int .i64 c, .int .i64 d], _, _] _ _
    go_enter Try.func23, Try.ntmps23
    go_wp2_with fail
    refine wp_region_later (by kernel_rfl) (by kernel_rfl) ?_
    repeat (go_big_quiet_step ((go_at_call 27; first | (with_reducible exact later_call (HL1.out _)) | (with_reducible exact later_call (HL2.out _)))))
    refine wpQuiet_nil ?_
    rintro _ ⟨x, rfl⟩
    go_wp2
    go_ret
    exact ⟨rfl, bthen (bnew (bid w) _) x.below⟩

end Go.Proofs.Ytpphllijbbcdcaa
