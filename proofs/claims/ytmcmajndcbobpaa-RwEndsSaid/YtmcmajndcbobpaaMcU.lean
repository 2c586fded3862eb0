/-
  A walk of a lock's own: what stands where; plain facts on numbers, words and four hands.
-/
import Derived.Test.YtmcmajndcbobpaaBoth
namespace Go.Proofs.Ytmcmajndcbobpaa
open Go.RowKit
attribute [local go_sem] Later.cell Later.frozen

/-- Where a walk stands: its own boxes, and what the memory holds. -/
structure TkAt (T TM E : TypeId) (w : World) (m : PM) (h g : HD) (B b : Nat) (vw : Value) (s : MS) (W : World) : Prop where
  three : Three TM w m h g W
  mem : IsMem T E W B b vw s
  wrote : Wrote (MemS b vw) w W
theorem TkAt.below {T TM E : TypeId} {w : World} {m : PM} {h g : HD} {B b : Nat} {vw : Value} {s : MS} {W W' : World} (k : TkAt T TM E w m h g B b vw s W) (hb : Below W.heap.size W W') : TkAt T TM E w m h g B b vw s W' :=
  ⟨k.three.below hb, k.mem.kept (Wrote.of_below hb (fun _ => False)) (fun _ _ h => h), k.wrote.trans (Wrote.of_below hb _)⟩
theorem TkAt.next {T TM E : TypeId} {w : World} {m : PM} {h g : HD} {B b : Nat} {vw : Value} {s s' : MS} {W W' : World} (k : TkAt T TM E w m h g B b vw s W) (hm : IsMem T E W' B b vw s') (hw : Wrote (MemS b vw) W W') (hold : ∀ j, MemS b vw j → j < w.heap.size) : TkAt T TM E w m h g B b vw s' W' :=
  ⟨k.three.kept hw hold, hm, k.wrote.trans hw⟩
theorem TkAt.setX {T TM E : TypeId} {w : World} {m : PM} {t l s x : Int} {r : Bool} {g : HD} {B b : Nat} {vw : Value} {ms : MS} {W : World} (k : TkAt T TM E w m ⟨t, l, s, r, x⟩ g B b vw ms W) (hold : ∀ j, MemS b vw j → j < w.heap.size) (y : Int) :
    TkAt T TM E w m ⟨t, l, s, r, y⟩ g B b vw ms (W.setCell ⟨w.heap.size + 1, 4, none⟩ (.int .i64 y)) := by
  have hw : Wrote (fun j => j = w.heap.size + 1) W (W.setCell ⟨w.heap.size + 1, 4, none⟩ (.int .i64 y)) := (Wrote.refl (fun j => j = w.heap.size + 1) W).setCell (p := ⟨w.heap.size + 1, 4, none⟩) (fun _ => rfl) _
  exact ⟨⟨(hw.block _ k.three.map.lt (by omega)).trans k.three.map, k.three.box.setX y, k.three.out.kept hw (by omega)⟩, k.mem.kept hw (fun j hj e => by have := hold j hj; omega), k.wrote.setCell (p := ⟨w.heap.size + 1, 4, none⟩) (fun h => by simp only at h; omega) _⟩
theorem TkAt.setS {T TM E : TypeId} {w : World} {m : PM} {t l s x : Int} {r : Bool} {g : HD} {B b : Nat} {vw : Value} {ms : MS} {W : World} (k : TkAt T TM E w m ⟨t, l, s, r, x⟩ g B b vw ms W) (hold : ∀ j, MemS b vw j → j < w.heap.size) (y : Int) :
    TkAt T TM E w m ⟨t, l, y, r, x⟩ g B b vw ms (W.setCell ⟨w.heap.size + 1, 2, none⟩ (.int .i64 y)) := by
  have hw : Wrote (fun j => j = w.heap.size + 1) W (W.setCell ⟨w.heap.size + 1, 2, none⟩ (.int .i64 y)) := (Wrote.refl (fun j => j = w.heap.size + 1) W).setCell (p := ⟨w.heap.size + 1, 2, none⟩) (fun _ => rfl) _
  exact ⟨⟨(hw.block _ k.three.map.lt (by omega)).trans k.three.map, k.three.box.setS y, k.three.out.kept hw (by omega)⟩, k.mem.kept hw (fun j hj e => by have := hold j hj; omega), k.wrote.setCell (p := ⟨w.heap.size + 1, 2, none⟩) (fun h => by simp only at h; omega) _⟩
theorem TkAt.done {T TM E : TypeId} {w : World} {m : PM} {h g : HD} {B b : Nat} {vw : Value} {s : MS} {W : World} (k : TkAt T TM E w m h g B b vw s W) (hold : ∀ j, MemS b vw j → j < w.heap.size) (h' : HD) (s' : MS) (hh : h = h') (hs : s = s') {v : Value} (hv : v = h.v) (a1 a2 a3 a4 a5 : Value) :
    HandRet T E h' s' B b vw w (.returned v) (((((W.setCell ⟨w.heap.size + 1 + 1, 0, none⟩ a1).setCell ⟨w.heap.size + 1 + 1, 1, none⟩ a2).setCell ⟨w.heap.size + 1 + 1, 2, none⟩ a3).setCell ⟨w.heap.size + 1 + 1, 3, none⟩ a4).setCell ⟨w.heap.size + 1 + 1, 4, none⟩ a5) := by
  subst hh hs
  exact HandRet.done (w.heap.size + 1 + 1) (by omega) hold k.mem k.wrote hv a1 a2 a3 a4 a5
theorem TkAt.start (T TM E : TypeId) {w : World} (m : PM) (h g : HD) {B b : Nat} {vw : Value} {s : MS} (hm : IsMem T E w B b vw s) :
    TkAt T TM E w m h g B b vw s (((w.alloc (.cells m.cells TM)).alloc (.cells h.cells 24)).alloc (.cells g.cells 24)) :=
  ⟨Three.new _ _ _ _ _, hm.kept (Wrote.of_below (bnew (bnew (bnew (bid w) _) _) _) (fun _ => False)) (fun _ _ h => h), Wrote.of_below (bnew (bnew (bnew (bid w) _) _) _) _⟩
theorem IsMem.hold {T E : TypeId} {w : World} {B b : Nat} {vw : Value} {s : MS} (h : IsMem T E w B b vw s) : ∀ k, MemS b vw k → k < w.heap.size := fun k hk => by
  rcases hk with rfl | hk
  · exact h.lt
  · exact (h.row.lt k hk).2
@[reducible] def h0 : HD := ⟨0, 0, 0, false, 0⟩

def mayHB (m : PM) (h : HD) : Bool := decide (mayH m h)
theorem mayHB_yes {m : PM} {h : HD} (k : mayH m h) : mayHB m h = true := decide_eq_true k
theorem mayHB_no {m : PM} {h : HD} (k : ¬ mayH m h) : mayHB m h = false := decide_eq_false k
set_option maxHeartbeats 2000000 in
theorem rMayH_any (m : PM) (h : HD) (w : World) :
    Calls Try.prog 37 #[m.v, h.v] w fun e w' => e = .returned (.bool (mayHB m h)) ∧ Below w.heap.size w w' := by
  have HM := hid (fun (x : World) => refMay_any m x)
  have HMP := hid (MapAt.new 29 w m)
  have HMH := hid (HandAt.new (w.alloc (.cells m.cells 29)) h)
  by_cases ho : m.Ok
  · have hy := pmayB_yes ho
    rcases (show h.t < 0 ∨ 0 ≤ h.t ∧ (m.t ≤ h.t ∨ h.t < m.t ∧ (h.l < 0 ∨ 0 ≤ h.l ∧ (m.l ≤ h.l ∨ h.l < m.l))) by omega) with h1 | ⟨h1, h2 | ⟨h2, h3 | ⟨h3, h4 | h4⟩⟩⟩
    · have HB := hid (mayHB_no (m := m) (h := h) fun k => by have := k.2.1; omega)
      rw [hy] at HM
      rw [HB.out]
      clear ho hy
      obtain ⟨s1, l, t, c, d⟩ := m
      obtain ⟨ht, hl, hs, hr, hx⟩ := h
      simp only at h1
      show Calls _ _ #[.agg #[.int .i64 s1, .int .i64 l, .int .i64 t, .int .i64 c, .int .i64 d], .agg #[.int .i64 ht, .int .i64 hl, .int .i64 hs, .bool hr, .int .i64 hx]] _ _
      go_enter Try.func37, Try.ntmps37
      go_wp2_with (go_at_call 53; (with_reducible refine (HM.out _).mono ?_); rintro e w1 ⟨rfl, hb1⟩; obtain ⟨hc1, hf1, hz1⟩ := bcell hb1 (size_alloc2 _ _ _); have HB1 := hid hb1; clear hb1)
      go_ret
      first | exact ⟨rfl, bthen (bnew (bnew (bid w) _) _) HB1.out⟩ | exact ⟨by show Ending.returned (.bool (decide (hl < l))) = _; first | rw [decide_eq_false (by omega)] | rw [decide_eq_true (by omega)], bthen (bnew (bnew (bid w) _) _) HB1.out⟩
    · have HB := hid (mayHB_no (m := m) (h := h) fun k => by have := k.2.2.1; omega)
      rw [hy] at HM
      rw [HB.out]
      clear ho hy
      obtain ⟨s1, l, t, c, d⟩ := m
      obtain ⟨ht, hl, hs, hr, hx⟩ := h
      simp only at h1 h2
      show Calls _ _ #[.agg #[.int .i64 s1, .int .i64 l, .int .i64 t, .int .i64 c, .int .i64 d], .agg #[.int .i64 ht, .int .i64 hl, .int .i64 hs, .bool hr, .int .i64 hx]] _ _
      go_enter Try.func37, Try.ntmps37
      go_wp2_with (go_at_call 53; (with_reducible refine (HM.out _).mono ?_); rintro e w1 ⟨rfl, hb1⟩; obtain ⟨hc1, hf1, hz1⟩ := bcell hb1 (size_alloc2 _ _ _); have HB1 := hid hb1; clear hb1)
      go_ret
      first | exact ⟨rfl, bthen (bnew (bnew (bid w) _) _) HB1.out⟩ | exact ⟨by show Ending.returned (.bool (decide (hl < l))) = _; first | rw [decide_eq_false (by omega)] | rw [decide_eq_true (by omega)], bthen (bnew (bnew (bid w) _) _) HB1.out⟩
    · have HB := hid (mayHB_no (m := m) (h := h) fun k => by have := k.2.2.2.1; omega)
      rw [hy] at HM
      rw [HB.out]
      clear ho hy
      obtain ⟨s1, l, t, c, d⟩ := m
      obtain ⟨ht, hl, hs, hr, hx⟩ := h
      simp only at h1 h2 h3
      show Calls _ _ #[.agg #[.int .i64 s1, .int .i64 l, .int .i64 t, .int .i64 c, .int .i64 d], .agg #[.int .i64 ht, .int .i64 hl, .int .i64 hs, .bool hr, .int .i64 hx]] _ _
      go_enter Try.func37, Try.ntmps37
      go_wp2_with (go_at_call 53; (with_reducible refine (HM.out _).mono ?_); rintro e w1 ⟨rfl, hb1⟩; obtain ⟨hc1, hf1, hz1⟩ := bcell hb1 (size_alloc2 _ _ _); have HB1 := hid hb1; clear hb1)
      go_ret
      first | exact ⟨rfl, bthen (bnew (bnew (bid w) _) _) HB1.out⟩ | exact ⟨by show Ending.returned (.bool (decide (hl < l))) = _; first | rw [decide_eq_false (by omega)] | rw [decide_eq_true (by omega)], bthen (bnew (bnew (bid w) _) _) HB1.out⟩
    · have HB := hid (mayHB_no (m := m) (h := h) fun k => by have := k.2.2.2.2; omega)
      rw [hy] at HM
      rw [HB.out]
      clear ho hy
      obtain ⟨s1, l, t, c, d⟩ := m
      obtain ⟨ht, hl, hs, hr, hx⟩ := h
      simp only at h1 h2 h3 h4
      show Calls _ _ #[.agg #[.int .i64 s1, .int .i64 l, .int .i64 t, .int .i64 c, .int .i64 d], .agg #[.int .i64 ht, .int .i64 hl, .int .i64 hs, .bool hr, .int .i64 hx]] _ _
      go_enter Try.func37, Try.ntmps37
      go_wp2_with (go_at_call 53; (with_reducible refine (HM.out _).mono ?_); rintro e w1 ⟨rfl, hb1⟩; obtain ⟨hc1, hf1, hz1⟩ := bcell hb1 (size_alloc2 _ _ _); have HB1 := hid hb1; clear hb1)
      go_ret
      first | exact ⟨rfl, bthen (bnew (bnew (bid w) _) _) HB1.out⟩ | exact ⟨by show Ending.returned (.bool (decide (hl < l))) = _; first | rw [decide_eq_false (by omega)] | rw [decide_eq_true (by omega)], bthen (bnew (bnew (bid w) _) _) HB1.out⟩
    · have HB := hid (mayHB_yes (m := m) (h := h) ⟨ho, h1, h2, h3, h4⟩)
      rw [hy] at HM
      rw [HB.out]
      clear ho hy
      obtain ⟨s1, l, t, c, d⟩ := m
      obtain ⟨ht, hl, hs, hr, hx⟩ := h
      simp only at h1 h2 h3 h4
      show Calls _ _ #[.agg #[.int .i64 s1, .int .i64 l, .int .i64 t, .int .i64 c, .int .i64 d], .agg #[.int .i64 ht, .int .i64 hl, .int .i64 hs, .bool hr, .int .i64 hx]] _ _
      go_enter Try.func37, Try.ntmps37
      go_wp2_with (go_at_call 53; (with_reducible refine (HM.out _).mono ?_); rintro e w1 ⟨rfl, hb1⟩; obtain ⟨hc1, hf1, hz1⟩ := bcell hb1 (size_alloc2 _ _ _); have HB1 := hid hb1; clear hb1)
      go_ret
      first | exact ⟨rfl, bthen (bnew (bnew (bid w) _) _) HB1.out⟩ | exact ⟨by show Ending.returned (.bool (decide (hl < l))) = _; first | rw [decide_eq_false (by omega)] | rw [decide_eq_true (by omega)], bthen (bnew (bnew (bid w) _) _) HB1.out⟩
  · have hy := pmayB_no ho
    have HB := hid (mayHB_no (m := m) (h := h) fun k => ho k.1)
    rw [hy] at HM
    rw [HB.out]
    clear ho hy
    obtain ⟨s1, l, t, c, d⟩ := m
    obtain ⟨ht, hl, hs, hr, hx⟩ := h
    show Calls _ _ #[.agg #[.int .i64 s1, .int .i64 l, .int .i64 t, .int .i64 c, .int .i64 d], .agg #[.int .i64 ht, .int .i64 hl, .int .i64 hs, .bool hr, .int .i64 hx]] _ _
    go_enter Try.func37, Try.ntmps37
    go_wp2_with (go_at_call 53; (with_reducible refine (HM.out _).mono ?_); rintro e w1 ⟨rfl, hb1⟩; obtain ⟨hc1, hf1, hz1⟩ := bcell hb1 (size_alloc2 _ _ _); have HB1 := hid hb1; clear hb1)
    go_ret
    exact ⟨rfl, bthen (bnew (bnew (bid w) _) _) HB1.out⟩

theorem wrap_small {x : Int} (h0 : -1000000000 ≤ x) (h1 : x ≤ 1000000000) : wrap64 x = x := by
  unfold wrap64
  omega
def upd (hs : Nat → HD) (k : Nat) (h : HD) : Nat → HD := fun j => if j = k then h else hs j
theorem upd_at (hs : Nat → HD) (k : Nat) (h : HD) : upd hs k h k = h := by simp [upd]
theorem upd_ne {hs : Nat → HD} {k j : Nat} {h : HD} (e : j ≠ k) : upd hs k h j = hs j := by simp [upd, e]
theorem vAt_nat {s : MS} {p : Nat} (h : p < s.zs.length) : s.vAt (p : Int) = s.zs.getD p 0 := by
  have hh : s.has (p : Int) := ⟨by omega, by omega⟩
  simp only [MS.vAt, if_pos hh]
  rfl
theorem added_nat {s : MS} {p : Nat} {v : Int} (h : p < s.zs.length) : (s.added (p : Int) v).zs = s.zs.set p (wrap64 (s.zs.getD p 0 + v)) := by
  have hh : s.has (p : Int) := ⟨by omega, by omega⟩
  simp only [MS.added, if_pos hh]
  rfl
theorem stored_nat {s : MS} {p : Nat} {v : Int} (h : p < s.zs.length) : (s.stored (p : Int) v).zs = s.zs.set p v := by
  have hh : s.has (p : Int) := ⟨by omega, by omega⟩
  simp only [MS.stored, if_pos hh]
  rfl
theorem loaded_zs (s : MS) (p : Int) : (s.loaded p).zs = s.zs := by unfold MS.loaded; split <;> simp [MS.acc]
theorem getD_set_same {l : List Int} {p : Nat} {v : Int} (h : p < l.length) : (l.set p v).getD p 0 = v := by simp [h]
theorem getD_set_other {l : List Int} {p q : Nat} {v : Int} (h : p ≠ q) : (l.set p v).getD q 0 = l.getD q 0 := by simp [List.getElem?_set_ne h]

theorem zrow_len (N : Nat) : (MS.new (zrow N)).zs.length = N := by simp [MS.new, zrow]
/-- A map, and a memory that was made behind it. -/
structure MapMem (w : World) (q b : Nat) (vw : Value) (s : MS) (W : World) : Prop where
  map : MapAt 26 W q mp4
  mem : Mem W w.heap.size b vw s
  qm : ¬ MemS b vw q
  q0 : w.heap.size ≤ q
  below : Below w.heap.size w W
theorem MapMem.later {w : World} {q b : Nat} {vw : Value} {s : MS} {W W' : World} (k : MapMem w q b vw s W) (hb : Below W.heap.size W W') : MapMem w q b vw s W' :=
  ⟨k.map.below hb, k.mem.kept (Wrote.of_below hb (fun _ => False)) (fun _ _ h => h), k.qm, k.q0, bthen k.below hb⟩
theorem MapMem.next {w : World} {q b : Nat} {vw : Value} {s s' : MS} {W W' : World} (k : MapMem w q b vw s W) (hm : Mem W' w.heap.size b vw s') (hw : Wrote (MemS b vw) W W') : MapMem w q b vw s' W' :=
  ⟨(hw.block q k.map.lt k.qm).trans k.map, hm, k.qm, k.q0, k.below.trans (hw.below k.below.size k.mem.old)⟩

end Go.Proofs.Ytmcmajndcbobpaa
