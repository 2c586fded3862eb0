/-
  A lock of numbers, in plain words, and the contracts of package ticket.
-/
import Derived.Test.YtpphllijbbcdcaaHand
namespace Go.Proofs.Ytpphllijbbcdcaa
open Go.RowKit
attribute [local go_sem] Later.cell Later.frozen

/-- The place that a hand turns to, and the number that it brings. -/
def aimF (m : PM) (h : HD) : Int × Int :=
  if ¬ (0 ≤ h.t ∧ h.t < m.t) then (-1, 0)
  else if h.s = 9 then (m.at_ 3 h.l 2, wrap64 (h.x + 1))
  else if h.s = 1 then (m.at_ 3 h.l 2, h.x)
  else if h.s = 0 then (m.at_ 3 h.l 1, 1)
  else (-1, 0)

def tkTake (m : PM) (s : MS) (h : HD) : HD × MS :=
  if mayH m h then
    if h.s = 0 then (⟨h.t, h.l, 1, h.rd, s.vAt (m.at_ 3 h.l 1)⟩, s.added (m.at_ 3 h.l 1) 1)
    else if h.s = 1 then (if s.vAt (m.at_ 3 h.l 2) = h.x then ⟨h.t, h.l, 9, h.rd, h.x⟩ else h, s.loaded (m.at_ 3 h.l 2))
    else (h, s)
  else (h, s)

def tkDrop (m : PM) (s : MS) (h : HD) : HD × MS :=
  if mayH m h ∧ h.s = 9 then (⟨h.t, h.l, 0, h.rd, 0⟩, s.stored (m.at_ 3 h.l 2) (wrap64 (h.x + 1))) else (h, s)

set_option maxHeartbeats 1000000 in
theorem whole_any (m : PM) (w : World) (B b : Nat) (vw : Value) (s : MS) (h : Mem w B b vw s) :
    Calls Try.prog 43 #[m.v, .pointer (some ⟨b, 0, none⟩)] w fun e w' => e = .returned (.bool (decide (m.size ≤ (s.zs.length : Int)))) ∧ Below w.heap.size w w' := by
  have H := hid (fun (x : Later (w.alloc (.cells m.cells 26))) => (h.kept (Wrote.of_below (bthen (bnew (bid w) _) x.below) (fun _ => False)) (fun _ _ h => h) : Mem x.v B b vw s))
  clear h
  obtain ⟨s1, l, t, c, d⟩ := m
  show Calls _ _ #[.agg #[.int .i64 s1, .int .i64 l, .int .i64 t, .int .i64 c, .int .i64 d], _] _ _
  go_enter Try.func43, Try.ntmps43
  go_wp2_with fail
  refine wp_region_later (by kernel_rfl) (by kernel_rfl) ?_
  repeat (go_big_quiet_step (first | (go_at_call 42; with_reducible exact later_same (Len_any _ _ _ _ _ (H.out _))) | (go_at_call 41; with_reducible exact later_call (Size_any ⟨s1, l, t, c, d⟩ _))))
  refine wpQuiet_nil ?_
  rintro _ ⟨x, rfl⟩
  go_wp2
  go_ret
  exact ⟨rfl, bthen (bnew (bid w) _) x.below⟩

theorem whole_yes (m : PM) (w : World) (B b : Nat) (vw : Value) (s : MS) (h : Mem w B b vw s) (hz : m.size ≤ (s.zs.length : Int)) :
    Calls Try.prog 43 #[m.v, .pointer (some ⟨b, 0, none⟩)] w fun e w' => e = .returned (.bool true) ∧ Below w.heap.size w w' :=
  (whole_any m w B b vw s h).mono fun _ _ ⟨he, hb⟩ => ⟨by rw [he, decide_eq_true hz], hb⟩

/-- A memory that is none has no words. -/
theorem Len_none (w : World) : Calls Try.prog 42 #[.pointer none] w fun e w' => e = .returned (.int .i64 0) ∧ w = w' := by
  go_enter Try.func42, Try.ntmps42
  go_wp2
  go_ret
  exact ⟨rfl, rfl⟩

set_option maxHeartbeats 1000000 in
theorem whole_nil (m : PM) (w : World) (ho : m.Ok) :
    Calls Try.prog 43 #[m.v, .pointer none] w fun e w' => e = .returned (.bool false) ∧ Below w.heap.size w w' := by
  have hz := (m.size_bounds ho).1
  have H := hid (fun (x : World) => (Size_any m x))
  clear ho
  generalize m.size = z at *
  obtain ⟨s1, l, t, c, d⟩ := m
  show Calls _ _ #[.agg #[.int .i64 s1, .int .i64 l, .int .i64 t, .int .i64 c, .int .i64 d], _] _ _
  go_enter Try.func43, Try.ntmps43
  go_wp2_with fail
  refine wp_region_later (by kernel_rfl) (by kernel_rfl) ?_
  repeat (go_big_quiet_step (first | (go_at_call 42; with_reducible exact later_same (Len_none _)) | (go_at_call 41; with_reducible exact later_call (H.out _))))
  refine wpQuiet_nil ?_
  rintro _ ⟨x, rfl⟩
  go_wp2
  go_ret
  exact ⟨by show Ending.returned (.bool (decide (z ≤ 0))) = _; rw [decide_eq_false (by omega)], bthen (bnew (bid w) _) x.below⟩

set_option maxHeartbeats 2000000 in
theorem aim_nil (m : PM) (h : HD) (w : World) (ho : m.Ok) :
    Calls Try.prog 34 #[m.v, .pointer none, h.v] w fun e w' => e = .returned (.tuple #[.int .i64 (-1), .int .i64 0]) ∧ Below w.heap.size w w' := by
  have HN := hid (fun (x : World) => whole_nil m x ho)
  clear ho
  obtain ⟨s1, l, t, c, d⟩ := m
  obtain ⟨ht, hl, hs, hr, hx⟩ := h
  show Calls _ _ #[.agg #[.int .i64 s1, .int .i64 l, .int .i64 t, .int .i64 c, .int .i64 d], _, .agg #[.int .i64 ht, .int .i64 hl, .int .i64 hs, .bool hr, .int .i64 hx]] _ _
  go_enter Try.func34, Try.ntmps34
  go_wp2_with (go_at_call 43; (with_reducible refine (HN.out _).mono ?_); rintro e w1 ⟨rfl, hb1⟩; have HB1 := hid hb1; clear hb1)
  go_ret2
  exact ⟨rfl, bthen (bnew (bnew (bid w) _) _) HB1.out⟩

set_option maxHeartbeats 2000000 in
theorem aim_any (m : PM) (h : HD) (w : World) (B b : Nat) (vw : Value) (s : MS) (hm : Mem w B b vw s) (hz : m.size ≤ (s.zs.length : Int)) (ho : m.Ok) :
    Calls Try.prog 34 #[m.v, .pointer (some ⟨b, 0, none⟩), h.v] w fun e w' => e = .returned (.tuple #[.int .i64 (aimF m h).1, .int .i64 (aimF m h).2]) ∧ Below w.heap.size w w' := by
  have HW := hid (fun (x : World) (hb : Below w.heap.size w x) => whole_yes m x B b vw s (hm.kept (Wrote.of_below hb (fun _ => False)) (fun _ _ h => h)) hz)
  have HT := hid (fun (x : World) (i p : Int) => Thread_any m i p x)
  have HK := hid (fun (x : World) (i p : Int) => Lock_any m i p x)
  have HB0 := hid (fun (o1 o2 : Obj) => bnew (bnew (bid w) o1) o2)
  have hti : 0 ≤ h.t → h.t < m.t → 0 ≤ m.at_ 4 h.t 0 := fun a b => (thread_in ho a b (by decide) (by decide)).1
  have hto : ¬ (0 ≤ h.t ∧ h.t < m.t) → m.at_ 4 h.t 0 = -1 := fun a => thread_out (by omega)
  have h9 : h.s = 9 → (0 ≤ h.t ∧ h.t < m.t) → aimF m h = (m.at_ 3 h.l 2, wrap64 (h.x + 1)) := fun a b => by simp [aimF, a, b]
  have h1 : h.s = 1 → (0 ≤ h.t ∧ h.t < m.t) → aimF m h = (m.at_ 3 h.l 2, h.x) := fun a b => by simp [aimF, a, b]
  have h0 : h.s = 0 → (0 ≤ h.t ∧ h.t < m.t) → aimF m h = (m.at_ 3 h.l 1, 1) := fun a b => by simp [aimF, a, b]
  have hn : ¬ (0 ≤ h.t ∧ h.t < m.t) → aimF m h = (-1, 0) := fun a => by unfold aimF; rw [if_pos a]
  have hq : ¬ h.s = 9 → ¬ h.s = 1 → ¬ h.s = 0 → (0 ≤ h.t ∧ h.t < m.t) → aimF m h = (-1, 0) := fun a b c d => by simp [aimF, a, b, c, d]
  clear hm hz ho
  obtain ⟨ht, hl, hs, hr, hx⟩ := h
  simp only at hti hto h9 h1 h0 hn hq
  generalize hp4 : m.at_ 4 ht 0 = p4 at *
  generalize hp2 : m.at_ 3 hl 2 = p2 at *
  generalize hp1 : m.at_ 3 hl 1 = p1 at *
  have HP := hid (And.intro hp4 (And.intro hp2 hp1))
  have HE := hid (And.intro h9 (And.intro h1 (And.intro h0 (And.intro hn hq))))
  clear hp4 hp2 hp1 h9 h1 h0 hn hq
  by_cases hT : 0 ≤ ht ∧ ht < m.t
  · have hp := hti hT.1 hT.2
    have HH := hid hT
    clear hti hto hT
    rcases (show hs = 9 ∨ hs = 1 ∨ hs = 0 ∨ (¬ hs = 9 ∧ ¬ hs = 1 ∧ ¬ hs = 0) by omega) with rfl | rfl | rfl | hq
    · rw [HE.out.1 rfl HH.out]
      obtain ⟨s1, l, t, c, d⟩ := m
      show Calls _ _ #[.agg #[.int .i64 s1, .int .i64 l, .int .i64 t, .int .i64 c, .int .i64 d], _, .agg #[.int .i64 ht, .int .i64 hl, .int .i64 9, .bool hr, .int .i64 hx]] _ _
      go_enter Try.func34, Try.ntmps34
      go_wp2_with (first | (go_at_call 43; (with_reducible refine (HW.out _ (HB0.out _ _)).mono ?_); rintro e w1 ⟨rfl, hb1⟩; obtain ⟨hc1, hf1, hz1⟩ := bcell hb1 (size_alloc2 _ _ _); have HB1 := hid hb1; clear hb1) | (go_at_call 48; (with_reducible refine (HT.out _ _ _).mono ?_); rw [HP.out.1]; rintro e w2 ⟨rfl, hb2⟩; obtain ⟨hc2, hf2, hz2⟩ := bcell (bthen HB1.out hb2) (size_alloc2 _ _ _); have HB2 := hid hb2; clear hb2) | (go_at_call 27; (with_reducible refine (HK.out _ _ _).mono ?_); rw [HP.out.2.1]; rintro e w3 ⟨rfl, hb3⟩; have HB3 := hid hb3; clear hb3))
      go_ret2
      exact ⟨rfl, bthen (bthen (bthen (HB0.out _ _) HB1.out) HB2.out) HB3.out⟩
    · rw [HE.out.2.1 rfl HH.out]
      obtain ⟨s1, l, t, c, d⟩ := m
      show Calls _ _ #[.agg #[.int .i64 s1, .int .i64 l, .int .i64 t, .int .i64 c, .int .i64 d], _, .agg #[.int .i64 ht, .int .i64 hl, .int .i64 1, .bool hr, .int .i64 hx]] _ _
      go_enter Try.func34, Try.ntmps34
      go_wp2_with (first | (go_at_call 43; (with_reducible refine (HW.out _ (HB0.out _ _)).mono ?_); rintro e w1 ⟨rfl, hb1⟩; obtain ⟨hc1, hf1, hz1⟩ := bcell hb1 (size_alloc2 _ _ _); have HB1 := hid hb1; clear hb1) | (go_at_call 48; (with_reducible refine (HT.out _ _ _).mono ?_); rw [HP.out.1]; rintro e w2 ⟨rfl, hb2⟩; obtain ⟨hc2, hf2, hz2⟩ := bcell (bthen HB1.out hb2) (size_alloc2 _ _ _); have HB2 := hid hb2; clear hb2) | (go_at_call 27; (with_reducible refine (HK.out _ _ _).mono ?_); rw [HP.out.2.1]; rintro e w3 ⟨rfl, hb3⟩; have HB3 := hid hb3; clear hb3))
      go_ret2
      exact ⟨rfl, bthen (bthen (bthen (HB0.out _ _) HB1.out) HB2.out) HB3.out⟩
    · rw [HE.out.2.2.1 rfl HH.out]
      obtain ⟨s1, l, t, c, d⟩ := m
      show Calls _ _ #[.agg #[.int .i64 s1, .int .i64 l, .int .i64 t, .int .i64 c, .int .i64 d], _, .agg #[.int .i64 ht, .int .i64 hl, .int .i64 0, .bool hr, .int .i64 hx]] _ _
      go_enter Try.func34, Try.ntmps34
      go_wp2_with (first | (go_at_call 43; (with_reducible refine (HW.out _ (HB0.out _ _)).mono ?_); rintro e w1 ⟨rfl, hb1⟩; obtain ⟨hc1, hf1, hz1⟩ := bcell hb1 (size_alloc2 _ _ _); have HB1 := hid hb1; clear hb1) | (go_at_call 48; (with_reducible refine (HT.out _ _ _).mono ?_); rw [HP.out.1]; rintro e w2 ⟨rfl, hb2⟩; obtain ⟨hc2, hf2, hz2⟩ := bcell (bthen HB1.out hb2) (size_alloc2 _ _ _); have HB2 := hid hb2; clear hb2) | (go_at_call 27; (with_reducible refine (HK.out _ _ _).mono ?_); rw [HP.out.2.2]; rintro e w3 ⟨rfl, hb3⟩; have HB3 := hid hb3; clear hb3))
      go_ret2
      exact ⟨rfl, bthen (bthen (bthen (HB0.out _ _) HB1.out) HB2.out) HB3.out⟩
    · rw [HE.out.2.2.2.2 hq.1 hq.2.1 hq.2.2 HH.out]
      obtain ⟨q9, q1, q0⟩ := hq
      obtain ⟨s1, l, t, c, d⟩ := m
      show Calls _ _ #[.agg #[.int .i64 s1, .int .i64 l, .int .i64 t, .int .i64 c, .int .i64 d], _, .agg #[.int .i64 ht, .int .i64 hl, .int .i64 hs, .bool hr, .int .i64 hx]] _ _
      go_enter Try.func34, Try.ntmps34
      go_wp2_with (first | (go_at_call 43; (with_reducible refine (HW.out _ (HB0.out _ _)).mono ?_); rintro e w1 ⟨rfl, hb1⟩; obtain ⟨hc1, hf1, hz1⟩ := bcell hb1 (size_alloc2 _ _ _); have HB1 := hid hb1; clear hb1) | (go_at_call 48; (with_reducible refine (HT.out _ _ _).mono ?_); rw [HP.out.1]; rintro e w2 ⟨rfl, hb2⟩; obtain ⟨hc2, hf2, hz2⟩ := bcell (bthen HB1.out hb2) (size_alloc2 _ _ _); have HB2 := hid hb2; clear hb2))
      go_ret2
      exact ⟨rfl, bthen (bthen (HB0.out _ _) HB1.out) HB2.out⟩
  · rw [HE.out.2.2.2.1 hT]
    have hp := hto hT
    clear hti hto hT
    obtain ⟨s1, l, t, c, d⟩ := m
    show Calls _ _ #[.agg #[.int .i64 s1, .int .i64 l, .int .i64 t, .int .i64 c, .int .i64 d], _, .agg #[.int .i64 ht, .int .i64 hl, .int .i64 hs, .bool hr, .int .i64 hx]] _ _
    go_enter Try.func34, Try.ntmps34
    go_wp2_with (first | (go_at_call 43; (with_reducible refine (HW.out _ (HB0.out _ _)).mono ?_); rintro e w1 ⟨rfl, hb1⟩; obtain ⟨hc1, hf1, hz1⟩ := bcell hb1 (size_alloc2 _ _ _); have HB1 := hid hb1; clear hb1) | (go_at_call 48; (with_reducible refine (HT.out _ _ _).mono ?_); rw [HP.out.1]; rintro e w2 ⟨rfl, hb2⟩; have HB2 := hid hb2; clear hb2))
    go_ret2
    exact ⟨rfl, bthen (bthen (HB0.out _ _) HB1.out) HB2.out⟩

end Go.Proofs.Ytpphllijbbcdcaa
