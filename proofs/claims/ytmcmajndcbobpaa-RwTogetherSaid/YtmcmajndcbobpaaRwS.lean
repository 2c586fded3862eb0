/-
  Readers and writers in a queue of four: what Take and Drop make of it.
-/
import Derived.Test.YtmcmajndcbobpaaRwP
namespace Go.Proofs.Ytmcmajndcbobpaa
open Go.RowKit

theorem stored_7 {s : MS} {p v : Int} (hp : p ≠ 7) : (s.stored p v).zs.getD 7 0 = s.zs.getD 7 0 := by
  unfold MS.stored
  split
  · rename_i h
    exact getD_set_other (by have := h.1; omega)
  · rfl
theorem swapped_7 {s : MS} {p o v : Int} (hp : p ≠ 7) : (s.swapped p o v).zs.getD 7 0 = s.zs.getD 7 0 := by
  unfold MS.swapped
  split
  · rename_i h
    split
    · exact getD_set_other (by have := h.1; omega)
    · rfl
  · rfl
theorem loaded_7 (s : MS) (p : Int) : (s.loaded p).zs.getD 7 0 = s.zs.getD 7 0 := by rw [loaded_zs]
theorem nodeF_7 (x p : Int) (hp : p = 0 ∨ p = 1) : nodeF mp4 0 x p ≠ 7 := by
  rcases ownF_range mp4 0 x with e | ⟨t, ht, e, hx, hi⟩
  · unfold nodeF
    rw [e, node_neg (fun h => by have := h.2.1; omega)]
    decide
  · unfold nodeF
    rw [e]
    rcases hp with rfl | rfl
    · rw [gate_at ht]; omega
    · rw [link_at ht]; omega
section
variable {s : MS} {h : HD} {t : Nat}
theorem mcTake_7 (ht : t < 4) (e1 : h.t = t) (e2 : h.l = 0) : (mcTake mp4 s h).2.zs.getD 7 0 = s.zs.getD 7 0 := by
  unfold mcTake mcQueue
  rw [e1, e2, gate_at ht, link_at ht, tail_at]
  repeat' split
  all_goals first | rfl | exact loaded_7 _ _ | exact stored_7 (by omega) | exact stored_7 (nodeF_7 _ _ (.inr rfl)) | exact swapped_7 (by decide)
theorem mcDrop_7 (ht : t < 4) (e1 : h.t = t) (e2 : h.l = 0) : (mcDrop mp4 s h).2.zs.getD 7 0 = s.zs.getD 7 0 := by
  unfold mcDrop
  rw [e1, e2, link_at ht, tail_at]
  repeat' split
  all_goals first | rfl | exact loaded_7 _ _ | exact stored_7 (by omega) | exact stored_7 (nodeF_7 _ _ (.inl rfl)) | exact swapped_7 (by decide)
theorem mcTake_rd (m : PM) : (mcTake m s h).1.rd = h.rd := by
  unfold mcTake mcQueue
  repeat' split
  all_goals rfl
theorem mcDrop_rd (m : PM) : (mcDrop m s h).1.rd = h.rd := by
  unfold mcDrop
  repeat' split
  all_goals rfl
theorem rTake_kind (m : PM) (h5 : h.s ≤ 5) (h0 : 0 ≤ h.s) : (mcTake m s h).1.s ≤ 5 ∨ (mcTake m s h).1.s = 9 := by
  by_cases hm : mayH m h
  · rcases (show h.s = 0 ∨ h.s = 1 ∨ h.s = 2 ∨ h.s = 3 ∨ h.s = 4 ∨ h.s = 5 by omega) with e | e | e | e | e | e
    · rw [mcT0 hm e]; exact .inl (by show (1 : Int) ≤ 5; decide)
    · rw [mcT1 hm e]; exact .inl (by show (2 : Int) ≤ 5; decide)
    · rw [mcT2 hm e]; exact .inl (by show (3 : Int) ≤ 5; decide)
    · rw [mcT3 hm e]
      unfold mcQueue
      split
      · split
        · exact .inr rfl
        · exact .inl (by show (4 : Int) ≤ 5; decide)
      · exact .inl h5
    · rw [mcT4 hm e]
      split
      · exact .inl (by show (5 : Int) ≤ 5; decide)
      · exact .inl h5
    · rw [mcT5 hm e]
      split
      · exact .inr rfl
      · exact .inl h5
  · unfold mcTake
    rw [if_neg hm]
    exact .inl h5
theorem rDrop_kind (m : PM) (hm : mayH m h) (hs : h.s = 9 ∨ h.s = 6 ∨ h.s = 7 ∨ h.s = 8) : (mcDrop m s h).1.s = 0 ∨ (mcDrop m s h).1.s = 6 ∨ (mcDrop m s h).1.s = 7 ∨ (mcDrop m s h).1.s = 8 := by
  rcases hs with e | e | e | e
  · rw [mcD9 hm e]
    split
    · exact .inr (.inr (.inl rfl))
    · exact .inr (.inr (.inr rfl))
  · rw [mcD6 hm e]
    split
    · exact .inr (.inl e)
    · exact .inr (.inr (.inr rfl))
  · rw [mcD7 hm e]
    split
    · exact .inl rfl
    · exact .inr (.inl rfl)
  · rw [mcD8 hm e]
    split
    · exact .inl rfl
    · exact .inr (.inr (.inr e))
theorem may_of (ht : t < 4) (e1 : h.t = t) (e2 : h.l = 0) : mayH mp4 h := by
  refine ⟨mp4_ok, ?_, ?_, ?_, ?_⟩ <;> simp only [e1, e2, mp4] <;> omega
theorem f_small (h0 : 0 ≤ h.s) (h5 : h.s ≤ 5 ∨ h.s = 10) : f9 h = 0 ∧ fin h = 0 ∧ fp h = 0 := by
  refine ⟨if_neg fun e => by omega, if_neg fun e => ?_, if_neg fun e => ?_⟩
  · rcases e with ⟨_, e | e⟩ <;> omega
  · rcases e with ⟨_, e, e'⟩ | ⟨_, e⟩ <;> omega
theorem mst_small (h0 : 0 ≤ h.s) (h5 : h.s ≤ 5) : mst h = h.s := by
  unfold mst
  repeat' split
  all_goals first | rfl | omega
theorem mst_wr (hw : h.rd = false) (h10 : h.s ≠ 10) : mst h = h.s := by
  unfold mst
  rw [if_neg h10, if_neg (by rw [hw]; decide)]
theorem HD.eq5 {a b : HD} (h1 : a.t = b.t) (h2 : a.l = b.l) (h3 : a.s = b.s) (h4 : a.rd = b.rd) (h5 : a.x = b.x) : a = b := by
  obtain ⟨t, l, s, r, x⟩ := a
  obtain ⟨t', l', s', r', x'⟩ := b
  simp only at h1 h2 h3 h4 h5
  subst h1 h2 h3 h4 h5
  rfl
end

section
variable {R : Nat} {s s' : MS} {hs : Nat → HD} {n : Nat → Nat} {q sw hd : List Nat} {t : Nat}
theorem Blk.of_eq {hs' : Nat → HD} (hz : s'.zs.getD 7 0 = s.zs.getD 7 0) (h1 : (hs t).s ≠ 10) (h2 : (hs' t).s ≠ 10) (hj : ∀ j, j ≠ t → hs' j = hs j) : Blk s' hs' ↔ Blk s hs := by
  unfold Blk
  rw [hz]
  constructor
  · rintro ⟨k1, j, k2, k3, k4⟩
    have e : j ≠ t := fun e => h2 (e ▸ k3)
    rw [hj j e] at k3 k4
    exact ⟨k1, j, k2, k3, k4⟩
  · rintro ⟨k1, j, k2, k3, k4⟩
    have e : j ≠ t := fun e => h1 (e ▸ k3)
    rw [← hj j e] at k3 k4
    exact ⟨k1, j, k2, k3, k4⟩
theorem vh_at (e1 : (hs t).t = t) (e2 : (hs t).l = 0) (e3 : mst (hs t) = (hs t).s) : vh hs t = hs t := HD.eq5 e1.symm e2.symm e3 rfl rfl
theorem upd_back (g : HD) : ∀ j, j ≠ t → upd hs t g j = hs j := fun _ h => upd_ne h

/-- In the queue. -/
theorem rw_queue (hb : RB s hs) (h : SI R s (vh hs) n q sw hd) (ht : t < 4) (e1 : (hs t).t = t) (e2 : (hs t).l = 0) (h0 : 0 ≤ (hs t).s) (h5 : (hs t).s ≤ 5) (hn : n t < R) :
    ∃ q' sw' hd', RB (mcTake mp4 s (hs t)).2 (upd hs t (gotH (mcTake mp4 s (hs t)).1)) ∧ SI R (mcTake mp4 s (hs t)).2 (vh (upd hs t (gotH (mcTake mp4 s (hs t)).1))) n q' sw' hd' ∧
      RStep s hs q n (mcTake mp4 s (hs t)).2 (upd hs t (gotH (mcTake mp4 s (hs t)).1)) q' n R t ∧
      ((gotH (mcTake mp4 s (hs t)).1).t = t ∧ (gotH (mcTake mp4 s (hs t)).1).l = 0) ∧ 0 ≤ (gotH (mcTake mp4 s (hs t)).1).s ∧ ((gotH (mcTake mp4 s (hs t)).1).s ≤ 5 ∨ (gotH (mcTake mp4 s (hs t)).1).s = 10) := by
  have hv := vh_at e1 e2 (mst_small h0 h5)
  have hT := h.take ht (by rw [hv]; exact h5) hn
  rw [hv] at hT
  have hkd := rTake_kind (s := s) (h := hs t) mp4 h5 h0
  have h7 := mcTake_7 (s := s) ht e1 e2
  generalize mcTake mp4 s (hs t) = r at *
  obtain ⟨q', hS, hC, _⟩ := hT
  obtain ⟨sw2, hd2, hS⟩ : ∃ sw2 hd2, SI R r.2 (upd (vh hs) t r.1) n q' sw2 hd2 := ⟨_, _, hS⟩
  have hrg := hS.range ht
  obtain ⟨g1, g2⟩ := hS.hand t ht
  rw [upd_at] at hrg g1 g2
  have hgs : gotH r.1 = if r.1.s = 9 then ⟨r.1.t, r.1.l, 10, r.1.rd, r.1.x⟩ else r.1 := rfl
  have ht' : (gotH r.1).t = t ∧ (gotH r.1).l = 0 := by
    rw [hgs]
    split
    · exact ⟨g1, g2⟩
    · exact ⟨g1, g2⟩
  have hsm : 0 ≤ (gotH r.1).s ∧ ((gotH r.1).s ≤ 5 ∨ (gotH r.1).s = 10) := by
    rw [hgs]
    split
    · exact ⟨by show (0 : Int) ≤ 10; decide, .inr rfl⟩
    · exact ⟨hrg.1, .inl (by rcases hkd with h | h; exact h; contradiction)⟩
  have hvg : vhd t (gotH r.1) = r.1 := by
    rw [hgs]
    split
    · rename_i h9
      exact HD.eq5 g1.symm g2.symm (show mst ⟨r.1.t, r.1.l, 10, r.1.rd, r.1.x⟩ = r.1.s from by unfold mst; rw [if_pos rfl, h9]) rfl rfl
    · rename_i h9
      exact HD.eq5 g1.symm g2.symm (mst_small hrg.1 (by rcases hkd with h | h; exact h; contradiction)) rfl rfl
  have hvh : vh (upd hs t (gotH r.1)) = upd (vh hs) t r.1 := by rw [vh_upd, hvg]
  obtain ⟨a1, a2, a3⟩ := f_small h0 (.inl h5)
  obtain ⟨b1, b2, b3⟩ := f_small hsm.1 hsm.2
  have s1 := sum4_upd f9 hs ht (gotH r.1)
  have s2 := sum4_upd fin hs ht (gotH r.1)
  have s3 := sum4_upd fp hs ht (gotH r.1)
  have hb' : RB r.2 (upd hs t (gotH r.1)) := by
    refine ⟨fun j hj => ?_, ?_, fun j hj h1 h2 h3 => ?_⟩
    · by_cases e : j = t
      · rw [e, upd_at]
        rcases hsm.2 with h | h
        · exact .inl ⟨hsm.1, h⟩
        · exact .inr (.inr (.inl h))
      · rw [upd_ne e]; exact hb.ok j hj
    · rw [h7, hb.cnt]; omega
    · by_cases e : j = t
      · rw [e, upd_at] at h2 h3
        rcases hsm.2 with h | h <;> omega
      · rw [upd_ne e] at h1 h2 h3
        have := hb.wr j hj h1 h2 h3
        omega
  have hS' : SI R r.2 (vh (upd hs t (gotH r.1))) n q' sw2 hd2 := by rw [hvh]; exact hS
  refine ⟨q', _, _, hb', hS', ?_, ht', hsm⟩
  refine RStep.of hb h hb' hS' ht (by rw [hvh]; exact hC) (by omega) (fun e => by have := remN_none e ht; omega) (fun a c ha hc => ?_) (fun e => by omega) (upd_back _)
  by_cases h9 : r.1.s = 9
  · exfalso
    have e5 : (VS.of r.2 (upd (vh hs) t r.1)).st t = 9 := by show (upd (vh hs) t r.1 t).s = 9; rw [upd_at, h9]
    obtain ⟨r', hr'⟩ := hS.pi.qi.first ht (by rw [e5]; decide)
    rw [hvh] at hc
    subst hr'
    obtain ⟨e, _, k⟩ := hc
    rcases k with ⟨k, _⟩ | ⟨_, k, _⟩ | ⟨k, _⟩ | ⟨k, _⟩ | ⟨k, _⟩
    · rw [e5] at k; exact absurd k (by decide)
    · exact ha k.symm
    · rw [e5] at k; exact absurd k (by decide)
    · rw [e5] at k; exact absurd k (by decide)
    · rw [e5] at k; exact absurd k (by decide)
  · refine Blk.of_eq h7 (by omega) ?_ (upd_back _)
    rw [upd_at, hgs, if_neg h9]
    rcases hkd with h | h
    · omega
    · exact absurd h h9

theorem at7 : mp4.at_ 3 0 3 = ((7 : Nat) : Int) := by decide
theorem VS.of_added (s : MS) (v : Int) (f : Nat → HD) (hl : s.zs.length = 48) : VS.of (s.added ((7 : Nat) : Int) v) f = VS.of s f := by
  have hz := added_nat (s := s) (p := 7) (v := v) (by omega)
  refine VS.eq rfl rfl ?_ ?_ ?_
  · show gF (s.added ((7 : Nat) : Int) v).zs = _
    rw [hz]
    funext j
    exact getD_set_other (by omega)
  · show kF (s.added ((7 : Nat) : Int) v).zs = _
    rw [hz]
    funext j
    exact getD_set_other (by omega)
  · show (s.added ((7 : Nat) : Int) v).zs.getD 4 0 = _
    rw [hz, getD_set_other (by omega)]
    rfl
theorem VS.of_loaded (s : MS) (p : Int) (f : Nat → HD) : VS.of (s.loaded p) f = VS.of s f := by unfold VS.of; rw [loaded_zs]
theorem SI.same (h : SI R s (vh hs) n q sw hd) {hs' : Nat → HD} (hl : s'.zs.length = s.zs.length) (hv : VS.of s' (vh hs') = VS.of s (vh hs)) : SI R s' (vh hs') n q sw hd :=
  ⟨hl.trans h.len, fun _ _ => ⟨rfl, rfl⟩, hv ▸ h.pi⟩
theorem vh_keep {g : HD} (e : mst g = mst (hs t)) (e2 : g.rd = (hs t).rd) (e3 : g.x = (hs t).x) : vh (upd hs t g) = vh hs := by
  rw [vh_upd]
  have : vhd t g = vh hs t := HD.eq5 rfl rfl e e2 e3
  rw [this, upd_idem]

/-- A reader is counted. -/
theorem rw_count (hb : RB s hs) (h : SI R s (vh hs) n q sw hd) (ht : t < 4) (hr : (hs t).rd = true) (h10 : (hs t).s = 10) :
    RB (s.added ((7 : Nat) : Int) 1) (upd hs t ⟨(hs t).t, (hs t).l, 11, (hs t).rd, (hs t).x⟩) ∧ SI R (s.added ((7 : Nat) : Int) 1) (vh (upd hs t ⟨(hs t).t, (hs t).l, 11, (hs t).rd, (hs t).x⟩)) n q sw hd ∧
      RStep s hs q n (s.added ((7 : Nat) : Int) 1) (upd hs t ⟨(hs t).t, (hs t).l, 11, (hs t).rd, (hs t).x⟩) q n R t := by
  have hlen := h.len
  generalize hg : (⟨(hs t).t, (hs t).l, 11, (hs t).rd, (hs t).x⟩ : HD) = g
  have gs : g.s = 11 := by rw [← hg]
  have gr : g.rd = true := by rw [← hg]; exact hr
  have m0 : mst (hs t) = 9 := by unfold mst; rw [if_pos h10]
  have hvh : vh (upd hs t g) = vh hs := vh_keep (by rw [m0]; unfold mst; rw [if_neg (by omega), if_pos gr, if_neg (by omega), if_pos (by omega), gs]; rfl) (by rw [← hg]) (by rw [← hg])
  have hv : VS.of (s.added ((7 : Nat) : Int) 1) (vh (upd hs t g)) = VS.of s (vh hs) := by rw [hvh, VS.of_added _ _ _ hlen]
  have hS' : SI R (s.added ((7 : Nat) : Int) 1) (vh (upd hs t g)) n q sw hd := h.same (len_added _ _ _) hv
  obtain ⟨a1, a2, a3⟩ := f_small (h := hs t) (by omega) (.inr h10)
  have b1 : f9 g = 0 := if_neg fun e => by omega
  have b2 : fin g = 1 := if_pos ⟨gr, .inr (by omega)⟩
  have b3 : fp g = 1 := if_pos (.inr ⟨gr, by omega⟩)
  have s1 := sum4_upd f9 hs ht g
  have s2 := sum4_upd fin hs ht g
  have s3 := sum4_upd fp hs ht g
  have s4 := sum_fin_le (upd hs t g)
  have hst : (VS.of s (vh hs)).st t = 9 := m0
  have hb' : RB (s.added ((7 : Nat) : Int) 1) (upd hs t g) := by
    refine ⟨fun j hj => ?_, ?_, fun j hj h1 h2 h3 => ?_⟩
    · by_cases e : j = t
      · rw [e, upd_at]; exact .inr (.inr (.inr (.inl ⟨gr, by omega, by omega⟩)))
      · rw [upd_ne e]; exact hb.ok j hj
    · rw [added_nat (by omega), getD_set_same (by omega), hb.cnt, wrap_small (by omega) (by omega)]; omega
    · exfalso
      by_cases e : j = t
      · rw [e, upd_at, gr] at h1; exact absurd h1 (by decide)
      · rw [upd_ne e] at h1 h2 h3
        have e5 : 5 < (VS.of s (vh hs)).st j := by rw [vst, mst_wr h1 (by omega)]; omega
        obtain ⟨r, hr1⟩ := h.pi.qi.first hj e5
        obtain ⟨r', hr2⟩ := h.pi.qi.first ht (by rw [hst]; decide)
        rw [hr1] at hr2
        simp at hr2
        exact e hr2.1
  refine ⟨hb', hS', RStep.down hb' hS' hv (by omega) fun e => ?_⟩
  have := h.pi.act t ht (by rw [hst]; decide)
  have := remN_none e ht
  omega
/-- A writer has it. -/
theorem rw_own (hb : RB s hs) (h : SI R s (vh hs) n q sw hd) (ht : t < 4) (hw : (hs t).rd = false) (h10 : (hs t).s = 10) (h0 : s.zs.getD 7 0 = 0) (p : Int) :
    RB (s.loaded p) (upd hs t ⟨(hs t).t, (hs t).l, 9, (hs t).rd, (hs t).x⟩) ∧ SI R (s.loaded p) (vh (upd hs t ⟨(hs t).t, (hs t).l, 9, (hs t).rd, (hs t).x⟩)) n q sw hd ∧
      RStep s hs q n (s.loaded p) (upd hs t ⟨(hs t).t, (hs t).l, 9, (hs t).rd, (hs t).x⟩) q n R t := by
  have hlen := h.len
  generalize hg : (⟨(hs t).t, (hs t).l, 9, (hs t).rd, (hs t).x⟩ : HD) = g
  have gs : g.s = 9 := by rw [← hg]
  have gr : g.rd = false := by rw [← hg]; exact hw
  have m0 : mst (hs t) = 9 := by unfold mst; rw [if_pos h10]
  have hvh : vh (upd hs t g) = vh hs := vh_keep (by rw [m0, mst_wr gr (by omega), gs]) (by rw [← hg]) (by rw [← hg])
  have hv : VS.of (s.loaded p) (vh (upd hs t g)) = VS.of s (vh hs) := by rw [hvh, VS.of_loaded]
  have hS' : SI R (s.loaded p) (vh (upd hs t g)) n q sw hd := h.same (len_loaded _ _) hv
  obtain ⟨a1, a2, a3⟩ := f_small (h := hs t) (by omega) (.inr h10)
  have b1 : f9 g = 0 := if_neg fun e => by rw [gr] at e; exact absurd e.1 (by decide)
  have b2 : fin g = 0 := if_neg fun e => by rw [gr] at e; exact absurd e.1 (by decide)
  have b3 : fp g = 1 := if_pos (.inl ⟨gr, by omega, by omega⟩)
  have s1 := sum4_upd f9 hs ht g
  have s2 := sum4_upd fin hs ht g
  have s3 := sum4_upd fp hs ht g
  have hc := hb.cnt
  have hst : (VS.of s (vh hs)).st t = 9 := m0
  have hb' : RB (s.loaded p) (upd hs t g) := by
    refine ⟨fun j hj => ?_, ?_, fun j hj h1 h2 h3 => by omega⟩
    · by_cases e : j = t
      · rw [e, upd_at]; exact .inr (.inl gs)
      · rw [upd_ne e]; exact hb.ok j hj
    · rw [loaded_zs, hc]; omega
  refine ⟨hb', hS', RStep.down hb' hS' hv (by omega) fun e => ?_⟩
  have := h.pi.act t ht (by rw [hst]; decide)
  have := remN_none e ht
  omega
/-- A writer waits. -/
theorem rw_wait (hb : RB s hs) (h : SI R s (vh hs) n q sw hd) (ht : t < 4) (hw : (hs t).rd = false) (h10 : (hs t).s = 10) (h0 : s.zs.getD 7 0 ≠ 0) (p : Int) :
    RB (s.loaded p) hs ∧ SI R (s.loaded p) (vh hs) n q sw hd ∧ RStep s hs q n (s.loaded p) hs q n R t :=
  ⟨⟨hb.ok, by rw [loaded_zs]; exact hb.cnt, hb.wr⟩, h.same (len_loaded _ _) (VS.of_loaded _ _ _), RStep.stay h (loaded_zs _ _) ht h10 hw h0⟩
/-- A reader gives it back. -/
theorem rw_back (hb : RB s hs) (h : SI R s (vh hs) n q sw hd) (ht : t < 4) (hr : (hs t).rd = true) (h9 : (hs t).s = 9) :
    RB (s.added ((7 : Nat) : Int) (-1)) (upd hs t ⟨(hs t).t, (hs t).l, 0, (hs t).rd, (hs t).x⟩) ∧ SI R (s.added ((7 : Nat) : Int) (-1)) (vh (upd hs t ⟨(hs t).t, (hs t).l, 0, (hs t).rd, (hs t).x⟩)) n q sw hd ∧
      RStep s hs q n (s.added ((7 : Nat) : Int) (-1)) (upd hs t ⟨(hs t).t, (hs t).l, 0, (hs t).rd, (hs t).x⟩) q n R t := by
  have hlen := h.len
  generalize hg : (⟨(hs t).t, (hs t).l, 0, (hs t).rd, (hs t).x⟩ : HD) = g
  have gs : g.s = 0 := by rw [← hg]
  have gr : g.rd = true := by rw [← hg]; exact hr
  have m0 : mst (hs t) = 0 := by unfold mst; rw [if_neg (by omega), if_pos hr, if_pos h9]
  have hvh : vh (upd hs t g) = vh hs := vh_keep (by rw [m0, mst_small (by omega) (by omega), gs]) (by rw [← hg]) (by rw [← hg])
  have hv : VS.of (s.added ((7 : Nat) : Int) (-1)) (vh (upd hs t g)) = VS.of s (vh hs) := by rw [hvh, VS.of_added _ _ _ hlen]
  have hS' : SI R (s.added ((7 : Nat) : Int) (-1)) (vh (upd hs t g)) n q sw hd := h.same (len_added _ _ _) hv
  have a1 : f9 (hs t) = 1 := if_pos ⟨hr, h9⟩
  have a2 : fin (hs t) = 1 := if_pos ⟨hr, .inl h9⟩
  have a3 : fp (hs t) = 0 := if_neg fun e => by
    rcases e with ⟨e, _⟩ | ⟨_, e⟩
    · rw [hr] at e; exact absurd e (by decide)
    · omega
  obtain ⟨b1, b2, b3⟩ := f_small (h := g) (by omega) (.inl (by omega))
  have s1 := sum4_upd f9 hs ht g
  have s2 := sum4_upd fin hs ht g
  have s3 := sum4_upd fp hs ht g
  have s4 := sum_fin_le hs
  have hb' : RB (s.added ((7 : Nat) : Int) (-1)) (upd hs t g) := by
    refine ⟨fun j hj => ?_, ?_, fun j hj h1 h2 h3 => ?_⟩
    · by_cases e : j = t
      · rw [e, upd_at]; exact .inl ⟨by omega, by omega⟩
      · rw [upd_ne e]; exact hb.ok j hj
    · rw [added_nat (by omega), getD_set_same (by omega), hb.cnt, wrap_small (by omega) (by omega)]; omega
    · by_cases e : j = t
      · rw [e, upd_at] at h2; omega
      · rw [upd_ne e] at h1 h2 h3
        have := hb.wr j hj h1 h2 h3
        omega
  exact ⟨hb', hS', RStep.down hb' hS' hv (by omega) fun _ => by omega⟩
end

end Go.Proofs.Ytmcmajndcbobpaa
