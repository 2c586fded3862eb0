/-
  Many readers, or one writer: Take and Drop in plain words; the contracts of the small parts: readers, whole, there, Inside, count.
-/
import Derived.Test.YtmcmajndcbobpaaMcsE
namespace Go.Proofs.Ytmcmajndcbobpaa
open Go.RowKit
attribute [local go_sem] Later.cell Later.frozen

def upI (x : Int) : Int := if x = 0 then 9 else if x = 7 then 12 else if x = 6 then 13 else if x = 8 then 14 else 11
def dnI (s : Int) : Int := if s = 11 then 9 else if s = 12 then 7 else if s = 13 then 6 else 8
def inH (h : HD) : HD := ⟨h.t, h.l, dnI h.s, h.rd, h.x⟩
def outH (h : HD) : HD := ⟨h.t, h.l, upI h.s, h.rd, h.x⟩
def gotH (h : HD) : HD := if h.s = 9 then ⟨h.t, h.l, 10, h.rd, h.x⟩ else h
def rwLeave (m : PM) (s : MS) (h : HD) : HD × MS := (outH (mcDrop m s (inH h)).1, (mcDrop m s (inH h)).2)
def rwTake (m : PM) (s : MS) (h : HD) : HD × MS :=
  if mayH m h then
    if 0 ≤ h.s ∧ h.s ≤ 5 then (gotH (mcTake m s h).1, (mcTake m s h).2)
    else if h.s = 10 then
      if h.rd = true then (⟨h.t, h.l, 11, h.rd, h.x⟩, s.added (m.at_ 3 h.l 3) 1)
      else (if s.vAt (m.at_ 3 h.l 3) = 0 then ⟨h.t, h.l, 9, h.rd, h.x⟩ else h, s.loaded (m.at_ 3 h.l 3))
    else if (11 ≤ h.s ∧ h.s ≤ 14) ∧ h.rd = true then rwLeave m s h
    else (h, s)
  else (h, s)
def rwDrop (m : PM) (s : MS) (h : HD) : HD × MS :=
  if h.rd = false then mcDrop m s h
  else if mayH m h ∧ h.s = 9 then (⟨h.t, h.l, 0, h.rd, h.x⟩, s.added (m.at_ 3 h.l 3) (-1))
  else (h, s)

theorem dnI_range (s : Int) : dnI s = 9 ∨ dnI s = 7 ∨ dnI s = 6 ∨ dnI s = 8 := by unfold dnI; repeat' split
                                                                                  all_goals simp
theorem mcDrop_range {m : PM} {s : MS} {h : HD} (hs : h.s = 9 ∨ h.s = 7 ∨ h.s = 6 ∨ h.s = 8) : (mcDrop m s h).1.s = 0 ∨ (mcDrop m s h).1.s = 9 ∨ (mcDrop m s h).1.s = 7 ∨ (mcDrop m s h).1.s = 6 ∨ (mcDrop m s h).1.s = 8 := by
  unfold mcDrop
  repeat' split
  all_goals first | (simp; done) | (simp only; omega)
theorem len_rwTake (m : PM) (s : MS) (h : HD) : (rwTake m s h).2.zs.length = s.zs.length := by
  unfold rwTake rwLeave
  repeat' split
  all_goals first | rfl | exact len_mcTake _ _ _ | exact len_mcDrop _ _ _ | exact len_added _ _ _ | exact len_loaded _ _
theorem len_rwDrop (m : PM) (s : MS) (h : HD) : (rwDrop m s h).2.zs.length = s.zs.length := by
  unfold rwDrop
  repeat' split
  all_goals first | rfl | exact len_mcDrop _ _ _ | exact len_added _ _ _

theorem readers_any (m : PM) (l : Int) (w : World) :
    Calls Try.prog 41 #[m.v, .int .i64 l] w fun e w' => e = .returned (.int .i64 (m.at_ 3 l 3)) ∧ Below w.heap.size w w' := by
  have HL := hid (fun (x : World) => Lock_any m l 3 x)
  generalize m.at_ 3 l 3 = p at *
  obtain ⟨s1, ml, mt, c, d⟩ := m
  show Calls _ _ #[.agg #[.int .i64 s1, .int .i64 ml, .int .i64 mt, .int .i64 c, .int .i64 d], _] _ _
  go_enter Try.func41, Try.ntmps41
  go_wp2_with (go_at_call 29; (with_reducible refine (HL.out _).mono ?_); rintro e w1 ⟨rfl, hb1⟩; have HB1 := hid hb1; clear hb1)
  go_ret
  exact ⟨rfl, bthen (bnew (bid w) _) HB1.out⟩

set_option maxHeartbeats 1000000 in
theorem rwhole_any (m : PM) (w : World) (B b : Nat) (vw : Value) (s : MS) (h : Mem w B b vw s) :
    Calls Try.prog 49 #[m.v, .pointer (some ⟨b, 0, none⟩)] w fun e w' => e = .returned (.bool (decide (m.size ≤ (s.zs.length : Int)))) ∧ Below w.heap.size w w' := by
  have H := hid (fun (x : Later (w.alloc (.cells m.cells 26))) => (h.kept (Wrote.of_below (bthen (bnew (bid w) _) x.below) (fun _ => False)) (fun _ _ h => h) : Mem x.v B b vw s))
  clear h
  obtain ⟨s1, l, t, c, d⟩ := m
  show Calls _ _ #[.agg #[.int .i64 s1, .int .i64 l, .int .i64 t, .int .i64 c, .int .i64 d], _] _ _
  go_enter Try.func49, Try.ntmps49
  go_wp2_with fail
  refine wp_region_later (by kernel_rfl) (by kernel_rfl) ?_
  repeat (go_big_quiet_step (first | (go_at_call 47; with_reducible exact later_same (Len_any _ _ _ _ _ (H.out _))) | (go_at_call 69; with_reducible exact later_call (Size_any ⟨s1, l, t, c, d⟩ _))))
  refine wpQuiet_nil ?_
  rintro _ ⟨x, rfl⟩
  go_wp2
  go_ret
  exact ⟨rfl, bthen (bnew (bid w) _) x.below⟩
theorem rwhole_yes (m : PM) (w : World) (B b : Nat) (vw : Value) (s : MS) (h : Mem w B b vw s) (hz : m.size ≤ (s.zs.length : Int)) :
    Calls Try.prog 49 #[m.v, .pointer (some ⟨b, 0, none⟩)] w fun e w' => e = .returned (.bool true) ∧ Below w.heap.size w w' := by
  have := rwhole_any m w B b vw s h
  rwa [decide_eq_true hz] at this

set_option maxHeartbeats 1000000 in
theorem there_any (m : PM) (h : HD) (w : World) (B b : Nat) (vw : Value) (s : MS) (hm : Mem w B b vw s) (hz : m.size ≤ (s.zs.length : Int)) :
    Calls Try.prog 34 #[m.v, .pointer (some ⟨b, 0, none⟩), h.v] w fun e w' => e = .returned (.bool (mayHB m h)) ∧ Below w.heap.size w w' := by
  have HM := hid (fun (x : World) (hb : Below w.heap.size w x) => (hm.kept (Wrote.of_below hb (fun _ => False)) (fun _ _ h => h) : Mem x B b vw s))
  have HW := hid (fun (x : World) (hb : Below w.heap.size w x) => rwhole_yes m x B b vw s (HM.out x hb) hz)
  have HID := hid (fun (x : World) => Id_any m h.t h.l x)
  have HMP := hid (MapAt.new 26 w m)
  have HMH := hid (HandAt.new (w.alloc (.cells m.cells 26)) h)
  by_cases hmay : mayH m h
  · have HB := hid (mayHB_yes hmay)
    have hip := idF_pos hmay
    have hib : (idF m h.t h.l != 0) = true := by simp; omega
    rw [HB.out]
    clear hmay hm hz hip HB
    generalize idF m h.t h.l = i at *
    obtain ⟨s1, ml, mt, c, d⟩ := m
    obtain ⟨ht, hl, hs, hr, hx⟩ := h
    show Calls _ _ #[.agg #[.int .i64 s1, .int .i64 ml, .int .i64 mt, .int .i64 c, .int .i64 d], _, .agg #[.int .i64 ht, .int .i64 hl, .int .i64 hs, .bool hr, .int .i64 hx]] _ _
    go_enter Try.func34, Try.ntmps34
    go_wp2_with (first | (go_at_call 54; (with_reducible refine (HID.out _).mono ?_); rintro e w1 ⟨rfl, hb1⟩; obtain ⟨hc1, hf1, hz1⟩ := bcell hb1 (size_alloc2 _ _ _); have HB1 := hid (bthen (bnew (bnew (bid w) _) _) hb1); clear hb1) | (go_at_call 49; (with_reducible refine (HW.out _ HB1.out).mono ?_); rintro e w2 ⟨rfl, hb2⟩; have HB2 := hid (bthen HB1.out hb2); clear hb2))
    go_ret
    exact ⟨rfl, HB2.out⟩
  · have HB := hid (mayHB_no hmay)
    have hi0 := idF_not hmay
    simp only [hi0] at HID
    rw [HB.out]
    clear hmay hm hz hi0 HB
    obtain ⟨s1, ml, mt, c, d⟩ := m
    obtain ⟨ht, hl, hs, hr, hx⟩ := h
    show Calls _ _ #[.agg #[.int .i64 s1, .int .i64 ml, .int .i64 mt, .int .i64 c, .int .i64 d], _, .agg #[.int .i64 ht, .int .i64 hl, .int .i64 hs, .bool hr, .int .i64 hx]] _ _
    go_enter Try.func34, Try.ntmps34
    go_wp2_with (go_at_call 54; (with_reducible refine (HID.out _).mono ?_); rintro e w1 ⟨rfl, hb1⟩; have HB1 := hid (bthen (bnew (bnew (bid w) _) _) hb1); clear hb1)
    go_ret
    exact ⟨rfl, HB1.out⟩

set_option maxHeartbeats 1000000 in
theorem Inside_any (m : PM) (l : Int) (w : World) (B b : Nat) (vw : Value) (s : MS) (hm : Mem w B b vw s) (hz : m.size ≤ (s.zs.length : Int)) :
    Calls Try.prog 23 #[m.v, .pointer (some ⟨b, 0, none⟩), .int .i64 l] w fun e w' => e = .returned (.int .i64 (s.vAt (m.at_ 3 l 3))) ∧ Below w.heap.size w w' := by
  have HM := hid (fun (x : World) (hb : Below w.heap.size w x) => (hm.kept (Wrote.of_below hb (fun _ => False)) (fun _ _ h => h) : Mem x B b vw s))
  have HW := hid (fun (x : World) (hb : Below w.heap.size w x) => rwhole_yes m x B b vw s (HM.out x hb) hz)
  have HR := hid (fun (x : World) => readers_any m l x)
  have HP := hid (fun (x : World) (hb : Below w.heap.size w x) => Peek_at (m.at_ 3 l 3) x B b vw s (HM.out x hb))
  clear hm hz
  generalize m.at_ 3 l 3 = p at *
  generalize s.vAt p = y at *
  obtain ⟨s1, ml, mt, c, d⟩ := m
  show Calls _ _ #[.agg #[.int .i64 s1, .int .i64 ml, .int .i64 mt, .int .i64 c, .int .i64 d], _, _] _ _
  go_enter Try.func23, Try.ntmps23
  go_wp2_with (first | (go_at_call 49; (with_reducible refine (HW.out _ (bnew (bid w) _)).mono ?_); rintro e w1 ⟨rfl, hb1⟩; obtain ⟨hc1, hf1, hz1⟩ := bcell hb1 (size_alloc1 _ _); have HB1 := hid (bthen (bnew (bid w) _) hb1); clear hb1) | (go_at_call 41; (with_reducible refine (HR.out _).mono ?_); rintro e w2 ⟨rfl, hb2⟩; have HB2 := hid (bthen HB1.out hb2); clear hb2) | (go_at_call 28; (with_reducible refine (HP.out _ HB2.out).mono ?_); rintro e w3 ⟨rfl, rfl⟩))
  go_ret
  exact ⟨rfl, HB2.out⟩

end Go.Proofs.Ytmcmajndcbobpaa
