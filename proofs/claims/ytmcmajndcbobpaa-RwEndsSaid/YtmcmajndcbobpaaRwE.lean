/-
  A step of one of four readers and writers: what the crowd makes of it.
-/
import Derived.Test.YtmcmajndcbobpaaRwD
namespace Go.Proofs.Ytmcmajndcbobpaa
open Go.RowKit

def HandOK (hs : Nat → HD) : Prop := ∀ t, t < 4 → (hs t).s ≠ 0 → (hs t).t = t ∧ (hs t).l = 0
def goes (h : HD) : Bool := decide (h.rd = false ∧ 6 ≤ h.s ∧ h.s ≤ 8)
def OutOKs (hs : Nat → HD) (os : Nat → Bool) : Prop := ∀ t, t < 4 → os t = goes (hs t)
theorem goes_no {h : HD} (k : ¬ (h.rd = false ∧ 6 ≤ h.s ∧ h.s ≤ 8)) : goes h = false := decide_eq_false k
theorem goes_yes {h : HD} (k : h.rd = false ∧ 6 ≤ h.s ∧ h.s ≤ 8) : goes h = true := decide_eq_true k

/-- What a step comes to. -/
def CrTo (R : Nat) (s : MS) (hs : Nat → HD) (q : List Nat) (n : Nat → Nat) (o : Bool) (v : Int) (t : Nat) (leave : Bool) (c : CS) : Prop :=
  ∃ q' n' sw' hd' K, RB c.s (upd hs t c.h) ∧ SI R c.s (vh (upd hs t c.h)) n' q' sw' hd' ∧ (c.h.t = t ∧ c.h.l = 0) ∧ c.o = goes c.h ∧ (c.n = if K = 1 then wrap64 (v + 1) else v) ∧ K ≤ 1 ∧
    n' t + f9 (hs t) = n t + f9 c.h + K ∧ (∀ j, j ≠ t → n' j = n j) ∧ (((hs t).s = 9 → leave = true) → RStep s hs q n c.s (upd hs t c.h) q' n' R t) ∧ c.h.rd = (hs t).rd ∧ (leave = false → o = false → K = 0)

def crGo (s : MS) (h : HD) (o : Bool) (v : Int) (leave : Bool) : CS :=
  if crO h o leave = true then
    if (rwDrop mp4 s h).1.s = 0 then ⟨(rwDrop mp4 s h).2, (rwDrop mp4 s h).1, false, wrap64 (v + 1)⟩
    else ⟨(rwDrop mp4 s h).2, (rwDrop mp4 s h).1, true, v⟩
  else ⟨(rwTake mp4 s h).2, (rwTake mp4 s h).1, o, v⟩
theorem crStep_go (s : MS) (h : HD) (o : Bool) (v : Int) (t : Nat) (read leave : Bool) : crStep s h o v t read leave = crGo s (crH h o t read) o v leave := rfl

section
variable {R : Nat} {s : MS} {hs : Nat → HD} {n : Nat → Nat} {q sw hd : List Nat} {t : Nat} {o leave : Bool} {v : Int}
theorem crGo_take (h : crO (hs t) o leave = false) : crGo s (hs t) o v leave = ⟨(rwTake mp4 s (hs t)).2, (rwTake mp4 s (hs t)).1, o, v⟩ := by unfold crGo; rw [h, if_neg (by decide)]
theorem crGo_drop (h : crO (hs t) o leave = true) : crGo s (hs t) o v leave = if (rwDrop mp4 s (hs t)).1.s = 0 then ⟨(rwDrop mp4 s (hs t)).2, (rwDrop mp4 s (hs t)).1, false, wrap64 (v + 1)⟩ else ⟨(rwDrop mp4 s (hs t)).2, (rwDrop mp4 s (hs t)).1, true, v⟩ := by unfold crGo; rw [h, if_pos rfl]
theorem crO_no (ho : o = false) (h : (hs t).s ≠ 9 ∨ leave = false) : crO (hs t) o leave = false := by
  unfold crO
  rcases h with h | h
  · simp [ho, h]
  · simp [ho, h]

theorem cr_go (hb : RB s hs) (h : SI R s (vh hs) n q sw hd) (ht : t < 4) (e1 : (hs t).t = t) (e2 : (hs t).l = 0) (ho : o = goes (hs t)) (hn : ¬ ((hs t).rd = true ∧ (hs t).s = 9) → n t < R) :
    CrTo R s hs q n o v t leave (crGo s (hs t) o v leave) := by
  have hmay := may_of ht e1 e2
  have wdrop : (hs t).rd = false → 6 ≤ (hs t).s → (hs t).s ≤ 9 → crO (hs t) o leave = true → (leave = false → o = false → False) → CrTo R s hs q n o v t leave (crGo s (hs t) o v leave) := fun hw h6 h9 hO hlo => by
    obtain ⟨q', n', k1, k2, k3, k4, k5, k6, k7, k8⟩ := rw_drop hb h ht e1 e2 hw h6 h9
    have hd1 : rwDrop mp4 s (hs t) = mcDrop mp4 s (hs t) := if_pos hw
    have a1 : f9 (hs t) = 0 := if_neg fun e => by rw [hw] at e; exact absurd e.1 (by decide)
    rw [crGo_drop hO, hd1]
    generalize mcDrop mp4 s (hs t) = r at *
    have b1 : f9 r.1 = 0 := if_neg fun e => by rw [k5] at e; exact absurd e.1 (by decide)
    by_cases hz : r.1.s = 0
    · rw [if_pos hz]
      rw [if_pos hz] at k7
      exact ⟨q', n', sw, hd, 1, k1, k2, k4, (goes_no (h := r.1) fun e => by omega).symm, rfl, by omega, by show n' t + f9 (hs t) = n t + f9 r.1 + 1; rw [a1, b1]; omega, k8, fun _ => k3, k5.trans hw.symm, fun a b => (hlo a b).elim⟩
    · rw [if_neg hz]
      rw [if_neg hz] at k7
      exact ⟨q', n', sw, hd, 0, k1, k2, k4, (goes_yes (h := r.1) ⟨k5, by omega, by omega⟩).symm, rfl, by omega, by show n' t + f9 (hs t) = n t + f9 r.1 + 0; rw [a1, b1]; omega, k8, fun _ => k3, k5.trans hw.symm, fun _ _ => rfl⟩
  rcases hb.ok t ht with ⟨h0, h5⟩ | h9 | h10 | ⟨hr, h11, h14⟩ | ⟨hw, h6, h8⟩
  · have ho' : o = false := ho.trans (goes_no fun e => by omega)
    rw [crGo_take (crO_no ho' (.inl (by omega)))]
    have hT : rwTake mp4 s (hs t) = (gotH (mcTake mp4 s (hs t)).1, (mcTake mp4 s (hs t)).2) := by unfold rwTake; rw [if_pos hmay, if_pos ⟨h0, h5⟩]
    rw [hT]
    obtain ⟨q', sw', hd', k1, k2, k3, k4, k5, k6⟩ := rw_queue hb h ht e1 e2 h0 h5 (hn fun e => by omega)
    have hrd : (gotH (mcTake mp4 s (hs t)).1).rd = (hs t).rd := by
      have := mcTake_rd (s := s) (h := hs t) mp4
      unfold gotH
      split
      · exact this
      · exact this
    generalize gotH (mcTake mp4 s (hs t)).1 = g at *
    obtain ⟨a1, _, _⟩ := f_small h0 (.inl h5)
    obtain ⟨b1, _, _⟩ := f_small k5 k6
    refine ⟨q', n, sw', hd', 0, k1, k2, k4, ?_, rfl, by omega, by rw [a1, b1], fun _ _ => rfl, fun _ => k3, hrd, fun _ _ => rfl⟩
    exact ho'.trans (goes_no (h := g) fun e => by omega).symm
  · by_cases hl : leave = true
    · cases hr : (hs t).rd with
      | false => exact wdrop hr (by omega) (by omega) (by unfold crO; simp [h9, hl]) (fun a _ => by rw [hl] at a; exact absurd a (by decide))
      | true =>
        have hO : crO (hs t) o leave = true := by unfold crO; simp [h9, hl]
        have hD : rwDrop mp4 s (hs t) = (⟨(hs t).t, (hs t).l, 0, (hs t).rd, (hs t).x⟩, s.added ((7 : Nat) : Int) (-1)) := by
          unfold rwDrop
          rw [if_neg (by rw [hr]; decide), if_pos ⟨hmay, h9⟩, e2, at7]
        rw [crGo_drop hO, hD]
        obtain ⟨k1, k2, k3⟩ := rw_back hb h ht hr h9
        have a1 : f9 (hs t) = 1 := if_pos ⟨hr, h9⟩
        have b1 : f9 ⟨(hs t).t, (hs t).l, 0, (hs t).rd, (hs t).x⟩ = 0 := if_neg fun e => by have := e.2; simp only at this; omega
        rw [if_pos rfl]
        exact ⟨q, n, sw, hd, 1, k1, k2, ⟨e1, e2⟩, (goes_no fun e => by have := e.2.1; simp only at this; omega).symm, rfl, by omega, by rw [a1, b1], fun _ _ => rfl, fun _ => k3, rfl, fun a _ => by rw [hl] at a; exact absurd a (by decide)⟩
    · have hl' : leave = false := by cases leave; rfl; exact absurd rfl hl
      have ho' : o = false := ho.trans (goes_no fun e => by omega)
      have hT : rwTake mp4 s (hs t) = (hs t, s) := by
        unfold rwTake
        rw [if_pos hmay, if_neg (by omega), if_neg (by omega), if_neg (fun e => by omega)]
      rw [crGo_take (crO_no ho' (.inr hl')), hT]
      exact ⟨q, n, sw, hd, 0, by rw [upd_idem]; exact hb, by rw [upd_idem]; exact h, ⟨e1, e2⟩, ho, rfl, by omega, rfl, fun _ _ => rfl, fun e => absurd (e h9) hl, rfl, fun _ _ => rfl⟩
  · have ho' : o = false := ho.trans (goes_no fun e => by omega)
    rw [crGo_take (crO_no ho' (.inl (by omega)))]
    obtain ⟨a1, _, _⟩ := f_small (h := hs t) (by omega) (.inr h10)
    cases hr : (hs t).rd with
    | true =>
      have hT : rwTake mp4 s (hs t) = (⟨(hs t).t, (hs t).l, 11, (hs t).rd, (hs t).x⟩, s.added ((7 : Nat) : Int) 1) := by
        unfold rwTake
        rw [if_pos hmay, if_neg (by omega), if_pos h10, if_pos hr, e2, at7]
      rw [hT]
      obtain ⟨k1, k2, k3⟩ := rw_count hb h ht hr h10
      have b1 : f9 ⟨(hs t).t, (hs t).l, 11, (hs t).rd, (hs t).x⟩ = 0 := if_neg fun e => by have := e.2; simp only at this; omega
      exact ⟨q, n, sw, hd, 0, k1, k2, ⟨e1, e2⟩, ho'.trans (goes_no fun e => by have := e.2.2; simp only at this; omega).symm, rfl, by omega, by rw [a1, b1], fun _ _ => rfl, fun _ => k3, rfl, fun _ _ => rfl⟩
    | false =>
      have hT : rwTake mp4 s (hs t) = (if s.vAt (mp4.at_ 3 (hs t).l 3) = 0 then ⟨(hs t).t, (hs t).l, 9, (hs t).rd, (hs t).x⟩ else hs t, s.loaded (mp4.at_ 3 (hs t).l 3)) := by
        unfold rwTake
        rw [if_pos hmay, if_neg (by omega), if_pos h10, if_neg (by rw [hr]; decide)]
      rw [hT, e2, at7, vAt_nat (by rw [h.len]; decide)]
      by_cases h0 : s.zs.getD 7 0 = 0
      · rw [if_pos h0]
        obtain ⟨k1, k2, k3⟩ := rw_own hb h ht hr h10 h0 ((7 : Nat) : Int)
        rw [e2] at k1 k2 k3
        have b1 : f9 ⟨(hs t).t, 0, 9, (hs t).rd, (hs t).x⟩ = 0 := if_neg fun e => by have := e.1; simp only [hr] at this; exact absurd this (by decide)
        exact ⟨q, n, sw, hd, 0, k1, k2, ⟨e1, rfl⟩, ho'.trans (goes_no fun e => by have := e.2.2; simp only at this; omega).symm, rfl, by omega, by rw [a1, b1], fun _ _ => rfl, fun _ => k3, rfl, fun _ _ => rfl⟩
      · rw [if_neg h0]
        obtain ⟨k1, k2, k3⟩ := rw_wait hb h ht hr h10 h0 ((7 : Nat) : Int)
        exact ⟨q, n, sw, hd, 0, by rw [upd_idem]; exact k1, by rw [upd_idem]; exact k2, ⟨e1, e2⟩, ho, rfl, by omega, rfl, fun _ _ => rfl, fun _ => by rw [upd_idem]; exact k3, rfl, fun _ _ => rfl⟩
  · have ho' : o = false := ho.trans (goes_no fun e => by omega)
    rw [crGo_take (crO_no ho' (.inl (by omega)))]
    have hT : rwTake mp4 s (hs t) = rwLeave mp4 s (hs t) := by
      unfold rwTake
      rw [if_pos hmay, if_neg (by omega), if_neg (by omega), if_pos ⟨⟨h11, h14⟩, hr⟩]
    rw [hT]
    obtain ⟨q', n', k1, k2, k3, k4, k5, k6, k7⟩ := rw_leave hb h ht e1 e2 hr h11 h14
    have a1 : f9 (hs t) = 0 := if_neg fun e => by omega
    generalize rwLeave mp4 s (hs t) = r at *
    exact ⟨q', n', sw, hd, 0, k1, k2, k4, ho'.trans (goes_no fun e => by rw [k5] at e; exact absurd e.1 (by decide)).symm, rfl, by omega, by rw [a1, k6], k7, fun _ => k3, k5.trans hr.symm, fun _ _ => rfl⟩
  · have ho' : o = true := ho.trans (goes_yes ⟨hw, h6, h8⟩)
    exact wdrop hw h6 (by omega) (by unfold crO; rw [ho']; rfl) (fun _ b => by rw [ho'] at b; exact absurd b (by decide))

/-- .. and what a step of the crowd comes to. -/
def CrowdTo (R : Nat) (s : MS) (hs : Nat → HD) (os : Nat → Bool) (q : List Nat) (n : Nat → Nat) (v : Int) (t : Nat) (read leave : Bool) (c : CS) : Prop :=
  ∃ q' n' sw' hd' K, RB c.s (upd hs t c.h) ∧ SI R c.s (vh (upd hs t c.h)) n' q' sw' hd' ∧ HandOK (upd hs t c.h) ∧ OutOKs (upd hs t c.h) (updV os t c.o) ∧ (c.n = if K = 1 then wrap64 (v + 1) else v) ∧ K ≤ 1 ∧
    n' t + f9 (hs t) = n t + f9 c.h + K ∧ (∀ j, j ≠ t → n' j = n j) ∧ (((hs t).s = 9 → leave = true) → RStep s hs q n c.s (upd hs t c.h) q' n' R t) ∧ (c.h.rd = if (hs t).s = 0 then read else (hs t).rd) ∧ (leave = false → os t = false → K = 0)
theorem cr_step (hb : RB s hs) (h : SI R s (vh hs) n q sw hd) (hh : HandOK hs) {os : Nat → Bool} (ho : OutOKs hs os) (ht : t < 4) (hn : ¬ ((hs t).rd = true ∧ (hs t).s = 9) → n t < R) (v : Int) (read leave : Bool) :
    CrowdTo R s hs os q n v t read leave (crStep s (hs t) (os t) v t read leave) := by
  rw [crStep_go]
  have hos := ho t ht
  have hall : ∀ (c : CS), (c.h.t = t ∧ c.h.l = 0) → c.o = goes c.h → HandOK (upd hs t c.h) ∧ OutOKs (upd hs t c.h) (updV os t c.o) := fun c k1 k2 => by
    refine ⟨fun j hj k => ?_, fun j hj => ?_⟩
    · by_cases e : j = t
      · rw [e, upd_at]; exact k1
      · rw [upd_ne e] at k ⊢; exact hh j hj k
    · by_cases e : j = t
      · rw [e, upd_at, updV_at]; exact k2
      · rw [upd_ne e, updV_ne e]; exact ho j hj
  by_cases h0 : (hs t).s = 0
  · have ho0 : os t = false := hos.trans (goes_no fun e => by omega)
    have hcr : crH (hs t) (os t) t read = ⟨t, 0, 0, read, 0⟩ := if_pos ⟨h0, ho0⟩
    rw [hcr]
    obtain ⟨b1, b2, b3⟩ := rw_fresh hb h ht h0 ⟨t, 0, 0, read, 0⟩ rfl
    generalize hhs : upd hs t ⟨t, 0, 0, read, 0⟩ = hs1 at *
    have hat : hs1 t = ⟨t, 0, 0, read, 0⟩ := by rw [← hhs, upd_at]
    have htw : ∀ g, upd hs1 t g = upd hs t g := fun g => by
      rw [← hhs]
      funext j
      by_cases e : j = t
      · rw [e, upd_at, upd_at]
      · rw [upd_ne e, upd_ne e, upd_ne e]
    have hG := cr_go (t := t) (o := os t) (leave := leave) (v := v) b1 b2 ht (by rw [hat]) (by rw [hat]) (by rw [hat, ho0]; exact (goes_no fun e => by have := e.2.1; simp only at this; omega).symm) (fun _ => hn fun e => by omega)
    rw [hat] at hG
    obtain ⟨q', n', sw', hd', K, k1, k2, k3, k4, k5, k6, k7, k8, k9, k10, k11⟩ := hG
    rw [htw] at k1 k2 k9
    have a1 : f9 (hs t) = 0 := if_neg fun e => by omega
    have a2 : f9 (hs1 t) = 0 := if_neg fun e => by rw [hat] at e; have := e.2; simp only at this; omega
    obtain ⟨hx1, hx2⟩ := hall _ k3 k4
    refine ⟨q', n', sw', hd', K, k1, k2, hx1, hx2, k5, k6, by rw [a1, ← a2]; exact k7, k8, fun _ => ?_, by rw [if_pos h0, k10, hat], k11⟩
    have hst := k9 (fun e => by rw [hat] at e; simp only at e; omega)
    exact fun A C hac => hst A C (b3 A C hac)
  · have hcr : crH (hs t) (os t) t read = hs t := if_neg fun e => h0 e.1
    rw [hcr]
    obtain ⟨e1, e2⟩ := hh t ht h0
    obtain ⟨q', n', sw', hd', K, k1, k2, k3, k4, k5, k6, k7, k8, k9, k10, k11⟩ := cr_go (leave := leave) (v := v) hb h ht e1 e2 hos hn
    obtain ⟨hx1, hx2⟩ := hall _ k3 k4
    exact ⟨q', n', sw', hd', K, k1, k2, hx1, hx2, k5, k6, k7, k8, k9, by rw [if_neg h0]; exact k10, k11⟩
end

end Go.Proofs.Ytmcmajndcbobpaa
