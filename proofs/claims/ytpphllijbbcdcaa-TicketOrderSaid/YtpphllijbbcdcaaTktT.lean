/-
  THE CONTRACTS of ticket.Take, Drop, Idle.
-/
import Derived.Test.YtpphllijbbcdcaaTkt
namespace Go.Proofs.Ytpphllijbbcdcaa
open Go.RowKit
attribute [local go_sem] Later.cell Later.frozen

theorem aim_neg {m : PM} {h : HD} {s : MS} (hn : (aimF m h).1 < 0) (ho : m.Ok) : tkTake m s h = (h, s) ∧ tkDrop m s h = (h, s) := by
  by_cases hm : mayH m h
  · have hm' := hm
    obtain ⟨_, t0, t1, l0, l1⟩ := hm'
    have h1 := (lock_in hm (p := 1) (by decide) (by decide)).2.1
    have h2 := (lock_in hm (p := 2) (by decide) (by decide)).2.1
    unfold aimF at hn
    rw [if_neg (by omega)] at hn
    by_cases e9 : h.s = 9
    · rw [if_pos e9] at hn; simp only at hn; omega
    · rw [if_neg e9] at hn
      by_cases e1 : h.s = 1
      · rw [if_pos e1] at hn; simp only at hn; omega
      · rw [if_neg e1] at hn
        by_cases e0 : h.s = 0
        · rw [if_pos e0] at hn; simp only at hn; omega
        · exact ⟨by simp [tkTake, e0, e1], by simp [tkDrop, e9]⟩
  · exact ⟨by simp [tkTake, hm], by simp [tkDrop, hm]⟩

theorem aim_pos {m : PM} {h : HD} (hn : 0 ≤ (aimF m h).1) (ho : m.Ok) : mayH m h ∧ (h.s = 9 ∧ aimF m h = (m.at_ 3 h.l 2, wrap64 (h.x + 1)) ∨ h.s = 1 ∧ aimF m h = (m.at_ 3 h.l 2, h.x) ∨ h.s = 0 ∧ aimF m h = (m.at_ 3 h.l 1, 1)) := by
  unfold aimF at hn ⊢
  by_cases hT : 0 ≤ h.t ∧ h.t < m.t
  · rw [if_neg (by simpa using hT)] at hn ⊢
    have hL : ∀ p, 0 ≤ m.at_ 3 h.l p → 0 ≤ h.l ∧ h.l < m.l := fun p hp => by
      by_cases hc : 0 ≤ h.l ∧ h.l < m.l
      · exact hc
      · rw [lock_out (by omega)] at hp; omega
    by_cases e9 : h.s = 9
    · rw [if_pos e9] at hn ⊢
      exact ⟨⟨ho, hT.1, hT.2, (hL 2 hn).1, (hL 2 hn).2⟩, .inl ⟨e9, rfl⟩⟩
    · rw [if_neg e9] at hn ⊢
      by_cases e1 : h.s = 1
      · rw [if_pos e1] at hn ⊢
        exact ⟨⟨ho, hT.1, hT.2, (hL 2 hn).1, (hL 2 hn).2⟩, .inr (.inl ⟨e1, rfl⟩)⟩
      · rw [if_neg e1] at hn ⊢
        by_cases e0 : h.s = 0
        · rw [if_pos e0] at hn ⊢
          exact ⟨⟨ho, hT.1, hT.2, (hL 1 hn).1, (hL 1 hn).2⟩, .inr (.inr ⟨e0, rfl⟩)⟩
        · rw [if_neg e0] at hn; simp only at hn; omega
  · rw [if_pos hT] at hn; simp only at hn; omega

/-- Where a walk stands: its own boxes, and what the memory holds. -/
structure TkAt (T TM E : TypeId) (w : World) (m : PM) (h g : HD) (B b : Nat) (vw : Value) (s : MS) (W : World) : Prop where
  three : Three TM w m h g W
  mem : IsMem T E W B b vw s
  wrote : Wrote (MemS b vw) w W
theorem TkAt.below {T TM E : TypeId} {w : World} {m : PM} {h g : HD} {B b : Nat} {vw : Value} {s : MS} {W W' : World} (k : TkAt T TM E w m h g B b vw s W) (hb : Below W.heap.size W W') : TkAt T TM E w m h g B b vw s W' :=
  ⟨k.three.below hb, k.mem.kept (Wrote.of_below hb (fun _ => False)) (fun _ _ h => h), k.wrote.trans (Wrote.of_below hb _)⟩
theorem TkAt.next {T TM E : TypeId} {w : World} {m : PM} {h g : HD} {B b : Nat} {vw : Value} {s s' : MS} {W W' : World} (k : TkAt T TM E w m h g B b vw s W) (hm : IsMem T E W' B b vw s') (hw : Wrote (MemS b vw) W W') (hold : ∀ j, MemS b vw j → j < w.heap.size) : TkAt T TM E w m h g B b vw s' W' :=
  ⟨k.three.kept hw hold, hm, k.wrote.trans hw⟩
theorem TkAt.setX {T TM E : TypeId} {w : World} {m : PM} {t l s x : Int} {r : Bool} {g : HD} {B b : Nat} {vw : Value} {ms : MS} {W : World} (k : TkAt T TM E w m ⟨t, l, s, r, x⟩ g B b vw ms W) (hold : ∀ j, MemS b vw j → j < w.heap.size) (y : Int) :
    TkAt T TM E w m ⟨t, l, s, r, y⟩ g B b vw ms (W.setCell ⟨w.heap.size + 1, 4, none⟩ (.int .i64 y)) := by
  have hw : Wrote (fun j => j = w.heap.size + 1) W (W.setCell ⟨w.heap.size + 1, 4, none⟩ (.int .i64 y)) := (Wrote.refl (fun j => j = w.heap.size + 1) W).setCell (p := ⟨w.heap.size + 1, 4, none⟩) (fun _ => rfl) _
  exact ⟨⟨(hw.block _ k.three.map.lt (by omega)).trans k.three.map, k.three.box.setX y, k.three.out.kept hw (by omega)⟩, k.mem.kept hw (fun j hj e => by have := hold j hj; omega), k.wrote.setCell (p := ⟨w.heap.size + 1, 4, none⟩) (fun h => by simp only at h; omega) _⟩
theorem TkAt.setS {T TM E : TypeId} {w : World} {m : PM} {t l s x : Int} {r : Bool} {g : HD} {B b : Nat} {vw : Value} {ms : MS} {W : World} (k : TkAt T TM E w m ⟨t, l, s, r, x⟩ g B b vw ms W) (hold : ∀ j, MemS b vw j → j < w.heap.size) (y : Int) :
    TkAt T TM E w m ⟨t, l, y, r, x⟩ g B b vw ms (W.setCell ⟨w.heap.size + 1, 2, none⟩ (.int .i64 y)) := by
  have hw : Wrote (fun j => j = w.heap.size + 1) W (W.setCell ⟨w.heap.size + 1, 2, none⟩ (.int .i64 y)) := (Wrote.refl (fun j => j = w.heap.size + 1) W).setCell (p := ⟨w.heap.size + 1, 2, none⟩) (fun _ => rfl) _
  exact ⟨⟨(hw.block _ k.three.map.lt (by omega)).trans k.three.map, k.three.box.setS y, k.three.out.kept hw (by omega)⟩, k.mem.kept hw (fun j hj e => by have := hold j hj; omega), k.wrote.setCell (p := ⟨w.heap.size + 1, 2, none⟩) (fun h => by simp only at h; omega) _⟩
theorem TkAt.done {T TM E : TypeId} {w : World} {m : PM} {h g : HD} {B b : Nat} {vw : Value} {s : MS} {W : World} (k : TkAt T TM E w m h g B b vw s W) (hold : ∀ j, MemS b vw j → j < w.heap.size) (h' : HD) (s' : MS) (hh : h = h') (hs : s = s') {v : Value} (hv : v = h.v) (a1 a2 a3 a4 a5 : Value) :
    HandRet T E h' s' B b vw w (.returned v) (((((W.setCell ⟨w.heap.size + 1 + 1, 0, none⟩ a1).setCell ⟨w.heap.size + 1 + 1, 1, none⟩ a2).setCell ⟨w.heap.size + 1 + 1, 2, none⟩ a3).setCell ⟨w.heap.size + 1 + 1, 3, none⟩ a4).setCell ⟨w.heap.size + 1 + 1, 4, none⟩ a5) := by
  subst hh hs
  exact HandRet.done (w.heap.size + 1 + 1) (by omega) hold k.mem k.wrote hv a1 a2 a3 a4 a5
theorem TkAt.start (T TM E : TypeId) {w : World} (m : PM) (h g : HD) {B b : Nat} {vw : Value} {s : MS} (hm : IsMem T E w B b vw s) :
    TkAt T TM E w m h g B b vw s (((w.alloc (.cells m.cells TM)).alloc (.cells h.cells 24)).alloc (.cells g.cells 24)) :=
  ⟨Three.new _ _ _ _ _, hm.kept (Wrote.of_below (bnew (bnew (bnew (bid w) _) _) _) (fun _ => False)) (fun _ _ h => h), Wrote.of_below (bnew (bnew (bnew (bid w) _) _) _) _⟩
theorem IsMem.hold {T E : TypeId} {w : World} {B b : Nat} {vw : Value} {s : MS} (h : IsMem T E w B b vw s) : ∀ k, MemS b vw k → k < w.heap.size := fun k hk => by
  rcases hk with rfl | hk
  · exact h.lt
  · exact (h.row.lt k hk).2

@[reducible] def h0 : HD := ⟨0, 0, 0, false, 0⟩

set_option maxHeartbeats 4000000 in
theorem Take_any (m : PM) (h : HD) (w : World) (B b : Nat) (vw : Value) (s : MS) (hm : Mem w B b vw s) (hz : m.size ≤ (s.zs.length : Int)) (ho : m.Ok) :
    Calls Try.prog 14 #[m.v, .pointer (some ⟨b, 0, none⟩), h.v] w (HandRet 65 2 (tkTake m s h).1 (tkTake m s h).2 B b vw w) := by
  have HAI := hid (fun (x : World) (hb : Mem x B b vw s) => aim_any m h x B b vw s hb hz ho)
  have HST := hid (TkAt.start 65 26 2 m h h0 hm)
  have HOLD := hid hm.hold
  by_cases hn : (aimF m h).1 < 0
  · have HR := hid (aim_neg (s := s) hn ho).1
    generalize haf : aimF m h = af at *
    obtain ⟨ax, ay⟩ := af
    simp only at hn HAI
    clear hm hz ho haf
    obtain ⟨s1, l, t, c, d⟩ := m
    obtain ⟨ht, hl, hs, hr, hx⟩ := h
    show Calls _ _ #[.agg #[.int .i64 s1, .int .i64 l, .int .i64 t, .int .i64 c, .int .i64 d], _, .agg #[.int .i64 ht, .int .i64 hl, .int .i64 hs, .bool hr, .int .i64 hx]] _ _
    go_enter Try.func14, Try.ntmps14
    go_upto_region 1 with fail
    refine wp_rename _ HST.out ?_
    intro W hk
    have HK := hid hk
    obtain ⟨m0, m1, m2, m3, m4, _⟩ := hk.three.map.facts
    obtain ⟨d0, d1, d2, d3, d4, df⟩ := hk.three.box.facts
    clear hk HST
    go_wp2_with (go_at_call 34; (with_reducible refine (HAI.out _ HK.out.mem).mono ?_); rintro e w1 ⟨rfl, hb1⟩; have HK1 := hid (HK.out.below hb1); obtain ⟨e0, e1, e2, e3, e4, ef⟩ := HK1.out.three.box.facts; obtain ⟨o0, o1, o2, o3, o4, of⟩ := HK1.out.three.out.facts; clear hb1)
    refine bodyPost_ret (v := (HD.mk ht hl hs hr hx).v) (by simp [results, Try.results14, go_sem, o0, o1, o2, o3, o4, of]) rfl ?_
    exact HK1.out.done HOLD.out _ _ (by rw [HR.out]) (by rw [HR.out]) rfl _ _ _ _ _
  · obtain ⟨hmay, haf⟩ := aim_pos (Int.not_lt.1 hn) ho
    clear hn hm hz ho
    rcases haf with ⟨hsv, haf⟩ | ⟨hsv, haf⟩ | ⟨hsv, haf⟩
    all_goals
      have hp1 := (lock_in hmay (p := 1) (by decide) (by decide)).2.1
      have hp2 := (lock_in hmay (p := 2) (by decide) (by decide)).2.1
      rw [haf] at HAI
      have HF := hid (show tkTake m s h = _ from by unfold tkTake; rw [if_pos hmay])
      generalize m.at_ 3 h.l 1 = p1 at *
      generalize m.at_ 3 h.l 2 = p2 at *
      clear hmay haf
    · obtain ⟨s1, l, t, c, d⟩ := m
      obtain ⟨ht, hl, hs, hr, hx⟩ := h
      simp only at hsv
      subst hsv
      show Calls _ _ #[.agg #[.int .i64 s1, .int .i64 l, .int .i64 t, .int .i64 c, .int .i64 d], _, .agg #[.int .i64 ht, .int .i64 hl, .int .i64 9, .bool hr, .int .i64 hx]] _ _
      go_enter Try.func14, Try.ntmps14
      go_upto_region 1 with fail
      refine wp_rename _ HST.out ?_
      intro W hk
      have HK := hid hk
      obtain ⟨m0, m1, m2, m3, m4, _⟩ := hk.three.map.facts
      obtain ⟨d0, d1, d2, d3, d4, df⟩ := hk.three.box.facts
      clear hk HST
      go_wp2_with ((go_at_call 34; (with_reducible refine (HAI.out _ HK.out.mem).mono ?_); rintro e w1 ⟨rfl, hb1⟩; have HK1 := hid (HK.out.below hb1); obtain ⟨e0, e1, e2, e3, e4, ef⟩ := HK1.out.three.box.facts; obtain ⟨o0, o1, o2, o3, o4, of⟩ := HK1.out.three.out.facts; clear hb1))
      refine bodyPost_ret (v := (HD.mk ht hl 9 hr hx).v) (by simp [results, Try.results14, go_sem, o0, o1, o2, o3, o4, of]) rfl ?_
      exact HK1.out.done HOLD.out _ _ (by rw [HF.out]; rfl) (by rw [HF.out]; rfl) rfl _ _ _ _ _
    · obtain ⟨s1, l, t, c, d⟩ := m
      obtain ⟨ht, hl, hs, hr, hx⟩ := h
      simp only at hsv
      subst hsv
      show Calls _ _ #[.agg #[.int .i64 s1, .int .i64 l, .int .i64 t, .int .i64 c, .int .i64 d], _, .agg #[.int .i64 ht, .int .i64 hl, .int .i64 1, .bool hr, .int .i64 hx]] _ _
      go_enter Try.func14, Try.ntmps14
      go_upto_region 1 with fail
      refine wp_rename _ HST.out ?_
      intro W hk
      have HK := hid hk
      obtain ⟨m0, m1, m2, m3, m4, _⟩ := hk.three.map.facts
      obtain ⟨d0, d1, d2, d3, d4, df⟩ := hk.three.box.facts
      clear hk HST
      have HLD := hid (fun (x : World) (hb : Mem x B b vw s) => Load_at p2 x B b vw s hb)
      by_cases hv : s.vAt p2 = hx
      · have HV := hid hv
        generalize s.vAt p2 = y at *
        subst hv
        go_wp2_with (first | (go_at_call 34; (with_reducible refine (HAI.out _ HK.out.mem).mono ?_); rintro e w1 ⟨rfl, hb1⟩; have HK1 := hid (HK.out.below hb1); obtain ⟨e0, e1, e2, e3, e4, ef⟩ := HK1.out.three.box.facts; obtain ⟨o0, o1, o2, o3, o4, of⟩ := HK1.out.three.out.facts; clear hb1) | (go_at_call 36; (with_reducible refine (HLD.out _ HK1.out.mem).mono ?_); rintro e w2 ⟨rfl, hm2, hw2⟩; have HK2 := hid (HK1.out.next hm2 hw2 HOLD.out); clear hm2 hw2 e0 e1 e2 e3 e4 ef o0 o1 o2 o3 o4 of; obtain ⟨e0, e1, e2, e3, e4, ef⟩ := HK2.out.three.box.facts; obtain ⟨o0, o1, o2, o3, o4, of⟩ := HK2.out.three.out.facts))
        refine bodyPost_ret (v := (HD.mk ht hl 9 hr y).v) (by simp [results, Try.results14, go_sem, o0, o1, o2, o3, o4, of]) rfl ?_
        exact (HK2.out.setS HOLD.out 9).done HOLD.out _ _ (by rw [HF.out]; simp) (by rw [HF.out]; simp) rfl _ _ _ _ _
      · have HV := hid hv
        generalize s.vAt p2 = y at *
        go_wp2_with (first | (go_at_call 34; (with_reducible refine (HAI.out _ HK.out.mem).mono ?_); rintro e w1 ⟨rfl, hb1⟩; have HK1 := hid (HK.out.below hb1); obtain ⟨e0, e1, e2, e3, e4, ef⟩ := HK1.out.three.box.facts; obtain ⟨o0, o1, o2, o3, o4, of⟩ := HK1.out.three.out.facts; clear hb1) | (go_at_call 36; (with_reducible refine (HLD.out _ HK1.out.mem).mono ?_); rintro e w2 ⟨rfl, hm2, hw2⟩; have HK2 := hid (HK1.out.next hm2 hw2 HOLD.out); clear hm2 hw2 e0 e1 e2 e3 e4 ef o0 o1 o2 o3 o4 of; obtain ⟨e0, e1, e2, e3, e4, ef⟩ := HK2.out.three.box.facts; obtain ⟨o0, o1, o2, o3, o4, of⟩ := HK2.out.three.out.facts))
        refine bodyPost_ret (v := (HD.mk ht hl 1 hr hx).v) (by simp [results, Try.results14, go_sem, o0, o1, o2, o3, o4, of]) rfl ?_
        exact HK2.out.done HOLD.out _ _ (by rw [HF.out]; simp [HV.out]) (by rw [HF.out]; simp) rfl _ _ _ _ _
    · obtain ⟨s1, l, t, c, d⟩ := m
      obtain ⟨ht, hl, hs, hr, hx⟩ := h
      simp only at hsv
      subst hsv
      show Calls _ _ #[.agg #[.int .i64 s1, .int .i64 l, .int .i64 t, .int .i64 c, .int .i64 d], _, .agg #[.int .i64 ht, .int .i64 hl, .int .i64 0, .bool hr, .int .i64 hx]] _ _
      go_enter Try.func14, Try.ntmps14
      go_upto_region 1 with fail
      refine wp_rename _ HST.out ?_
      intro W hk
      have HK := hid hk
      obtain ⟨m0, m1, m2, m3, m4, _⟩ := hk.three.map.facts
      obtain ⟨d0, d1, d2, d3, d4, df⟩ := hk.three.box.facts
      clear hk HST
      have HLD := hid (fun (x : World) (hb : Mem x B b vw s) => Add_at p1 1 x B b vw s hb)
      generalize s.vAt p1 = y at *
      go_wp2_with (first | (go_at_call 34; (with_reducible refine (HAI.out _ HK.out.mem).mono ?_); rintro e w1 ⟨rfl, hb1⟩; have HK1 := hid (HK.out.below hb1); obtain ⟨e0, e1, e2, e3, e4, ef⟩ := HK1.out.three.box.facts; obtain ⟨o0, o1, o2, o3, o4, of⟩ := HK1.out.three.out.facts; clear hb1) | (go_at_call 35; (with_reducible refine (HLD.out _ HK1.out.mem).mono ?_); rintro e w2 ⟨rfl, hm2, hw2⟩; have HK2 := hid (HK1.out.next hm2 hw2 HOLD.out); clear hm2 hw2 e0 e1 e2 e3 e4 ef o0 o1 o2 o3 o4 of; obtain ⟨e0, e1, e2, e3, e4, ef⟩ := HK2.out.three.box.facts; obtain ⟨o0, o1, o2, o3, o4, of⟩ := HK2.out.three.out.facts))
      refine bodyPost_ret (v := (HD.mk ht hl 1 hr y).v) (by simp [results, Try.results14, go_sem, o0, o1, o2, o3, o4, of]) rfl ?_
      exact ((HK2.out.setX HOLD.out y).setS HOLD.out 1).done HOLD.out _ _ (by rw [HF.out]; simp) (by rw [HF.out]; simp) rfl _ _ _ _ _

end Go.Proofs.Ytpphllijbbcdcaa
