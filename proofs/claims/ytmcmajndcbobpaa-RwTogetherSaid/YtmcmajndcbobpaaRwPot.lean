/-
  Readers and writers in a queue of four: all come to the end.
-/
import Derived.Test.YtmcmajndcbobpaaCwAt
namespace Go.Proofs.Ytmcmajndcbobpaa
open Go.RowKit

section
variable {R : Nat} {s s' : MS} {hs hs' : Nat → HD} {n n' : Nat → Nat} {q q' sw hd sw' hd' : List Nat} {t : Nat}
theorem RAct.lt (h : SI R s (vh hs) n q sw hd) {A C : Nat} (k : RAct s hs q n R A C) : A < 4 := by
  rcases k with ⟨a, c, hc, he, hy, hn⟩ | ⟨_, k, _⟩
  · by_cases hk : Blk s hs
    · exact (hy hk).1
    · rw [hn hk]; exact hc.lt h.pi.qi
  · exact k
theorem RAct.pos (hb : RB s hs) (h : SI R s (vh hs) n q sw hd) {A C : Nat} (k : RAct s hs q n R A C) : 1 ≤ C := by
  rcases k with ⟨a, c, hc, he, hy, hn⟩ | ⟨_, k1, k2, k3, rfl⟩
  · have := hc.pos h.pi
    have := fp_le hb h
    omega
  · have := sum4_get f9 hs k1
    have h1 : f9 (hs A) = 1 := if_pos ⟨k2, k3⟩
    omega
theorem rem_f9 (hn : ∀ t, t < 4 → f9 (hs t) ≤ n t) (hle : ∀ t, t < 4 → n t ≤ R) : remN n R + sum4 f9 hs ≤ 4 * R := by
  unfold remN sum4
  have := hn 0 (by omega)
  have := hn 1 (by omega)
  have := hn 2 (by omega)
  have := hn 3 (by omega)
  have := hle 0 (by omega)
  have := hle 1 (by omega)
  have := hle 2 (by omega)
  have := hle 3 (by omega)
  omega
theorem f9_le (h : HD) : f9 h ≤ 1 := by unfold f9; split <;> omega
theorem sum_f9_le (hs : Nat → HD) : sum4 f9 hs ≤ 4 := by
  unfold sum4
  have := f9_le (hs 0)
  have := f9_le (hs 1)
  have := f9_le (hs 2)
  have := f9_le (hs 3)
  omega
theorem RAct.some (hb : RB s hs) (h : SI R s (vh hs) n q sw hd) (hn : ∀ t, t < 4 → f9 (hs t) ≤ n t) (hd0 : ¬ (remN n R = 0 ∧ sum4 f9 hs = 0)) : ∃ A C, RAct s hs q n R A C ∧ C ≤ 40 * R + 4 := by
  have hr := rem_f9 hn h.pi.le
  have h4 := sum_f9_le hs
  by_cases h0 : remN n R = 0
  · obtain ⟨A, hA, hf⟩ := sum4_some (f := f9) (hs := hs) (fun e => hd0 ⟨h0, e⟩)
    obtain ⟨h1, h2⟩ := f9_is hf
    exact ⟨A, _, .inr ⟨h0, hA, h1, h2, rfl⟩, by omega⟩
  · obtain ⟨a, c, hc, hle⟩ := h.pi.costs h0
    obtain ⟨A, C, k1, k2⟩ := RCost.some hb h hc
    exact ⟨A, C, .inl k1, by omega⟩

/-- How far it is, at the j-th step, where the picks end behind the len-th. -/
def RPot (s : MS) (hs : Nat → HD) (q : List Nat) (n : Nat → Nat) (len j : Nat) : Prop := j ≤ len ∨ (remN n 2 = 0 ∧ sum4 f9 hs = 0) ∨ ∃ A C, RAct s hs q n 2 A C ∧ 4 * C + distN j A + (j - len) ≤ 400
theorem RPot.key {len j : Nat} (hb : RB s hs) (h : SI 2 s (vh hs) n q sw hd) (hn : ∀ t, t < 4 → f9 (hs t) ≤ n t) (hp : RPot s hs q n len j) (hj : len ≤ j) (hd0 : ¬ (remN n 2 = 0 ∧ sum4 f9 hs = 0)) : ∃ A C, RAct s hs q n 2 A C ∧ 4 * C + distN j A + (j - len) ≤ 400 := by
  rcases hp with hp | hp | hp
  · obtain ⟨A, C, k1, k2⟩ := RAct.some hb h hn hd0
    refine ⟨A, C, k1, ?_⟩
    have : distN j A ≤ 3 := by unfold distN; omega
    omega
  · exact absurd hp hd0
  · exact hp
theorem RPot.step {len j : Nat} (hb : RB s hs) (h : SI 2 s (vh hs) n q sw hd) (hn : ∀ t, t < 4 → f9 (hs t) ≤ n t) (hp : RPot s hs q n len j) (hj : j % 4 = t ∨ j < len) (hs2 : RStep s hs q n s' hs' q' n' 2 t) (hd0 : ¬ (remN n 2 = 0 ∧ sum4 f9 hs = 0)) : RPot s' hs' q' n' len (j + 1) := by
  by_cases hlt : j + 1 ≤ len
  · exact .inl hlt
  by_cases h0 : remN n' 2 = 0 ∧ sum4 f9 hs' = 0
  · exact .inr (.inl h0)
  have hjt : j % 4 = t := by omega
  obtain ⟨A, C, k1, k2⟩ := RPot.key hb h hn hp (by omega) hd0
  obtain ⟨s1, s2⟩ := hs2 A C k1
  have hA := RAct.lt h k1
  have better : RBetter s' hs' q' n' 2 C → RPot s' hs' q' n' len (j + 1) := fun hbt => by
    rcases hbt with hbt | ⟨A', C', k3, k4⟩
    · exact absurd hbt h0
    · refine .inr (.inr ⟨A', C', k4, ?_⟩)
      have : distN (j + 1) A' ≤ 3 := by unfold distN; omega
      omega
  by_cases e : t = A
  · exact better (s1 e)
  · rcases s2 e with k3 | k3
    · refine .inr (.inr ⟨A, C, k3, ?_⟩)
      have : distN (j + 1) A + 1 ≤ distN j A := by unfold distN; omega
      omega
    · exact better k3
/-- One that is done is passed by. -/
theorem RPot.skip {len j : Nat} (hb : RB s hs) (h : SI 2 s (vh hs) n q sw hd) {N : Nat → Nat} (hN : ∀ t, t < 4 → n t = N t + f9 (hs t)) (ht : t < 4) (hp : RPot s hs q n len j) (hj : j % 4 = t ∨ j < len) (h2 : 2 ≤ N t) : RPot s hs q n len (j + 1) := by
  by_cases hlt : j + 1 ≤ len
  · exact .inl hlt
  by_cases h0 : remN n 2 = 0 ∧ sum4 f9 hs = 0
  · exact .inr (.inl h0)
  have hjt : j % 4 = t := by omega
  obtain ⟨A, C, k1, k2⟩ := RPot.key hb h (fun t ht => by have := hN t ht; omega) hp (by omega) h0
  have hA := RAct.lt h k1
  have hne : t ≠ A := by
    intro e
    have hle := h.pi.le A hA
    have hNA := hN A hA
    subst e
    have r9 : ((hs t).rd = true ∧ (hs t).s = 9) → False := fun e => by
      have h1 : f9 (hs t) = 1 := if_pos e
      omega
    rcases k1 with ⟨a, c, hc, he, hy, hn⟩ | ⟨_, _, k3, k4, _⟩
    · by_cases hk : Blk s hs
      · exact r9 (hy hk).2
      · have hta := hn hk
        subst hta
        cases q with
        | nil => have := hc.2.1; omega
        | cons b r => obtain ⟨e, _, k⟩ := hc; have := h.pi.memlt k.mem; omega
    · exact r9 ⟨k3, k4⟩
  refine .inr (.inr ⟨A, C, k1, ?_⟩)
  have : distN (j + 1) A + 1 ≤ distN j A := by unfold distN; omega
  omega
theorem RPot.done {len : Nat} (hb : RB s hs) (h : SI 2 s (vh hs) n q sw hd) (hp : RPot s hs q n len (len + 400)) : remN n 2 = 0 ∧ sum4 f9 hs = 0 := by
  rcases hp with hp | hp | ⟨A, C, k1, k2⟩
  · omega
  · exact hp
  · have := RAct.pos hb h k1; omega
/-- All is left as it was. -/
theorem rw_done (hb : RB s hs) (h : SI R s (vh hs) n q sw hd) (h0 : remN n R = 0) (h9 : sum4 f9 hs = 0) : s.zs.getD 4 0 = 0 ∧ s.zs.getD 7 0 = 0 := by
  obtain ⟨hq, hT, _⟩ := h.pi.done h0
  subst hq
  refine ⟨hT, ?_⟩
  rw [hb.cnt]
  have hz : sum4 fin hs = 0 := by
    by_cases hz : sum4 fin hs = 0
    · exact hz
    · exfalso
      obtain ⟨A, hA, hf⟩ := sum4_some (f := fin) (hs := hs) hz
      obtain ⟨h1, h2⟩ := fin_is hf
      rcases h2 with h2 | h2
      · have := sum4_get f9 hs hA
        have h3 : f9 (hs A) = 1 := if_pos ⟨h1, h2⟩
        omega
      · have e1 : 5 < (VS.of s (vh hs)).st A := by
          rw [vst]
          unfold mst
          rw [if_neg (by omega), if_pos h1, if_neg (by omega), if_pos h2]
          rcases dnI_range (hs A).s with e | e | e | e <;> omega
        obtain ⟨r, hr⟩ := h.pi.qi.first hA e1
        exact absurd hr (by simp)
  omega

/-! ### Readers alone -/
def distK (k j A : Nat) : Nat := (A + k - j % k) % k
def TPot (s : MS) (hs : Nat → HD) (q : List Nat) (n : Nat → Nat) (k len j : Nat) : Prop := j ≤ len ∨ remN n 1 = 0 ∨ ∃ A C, RCost s hs q n 1 A C ∧ k * C + distK k j A + (j - len) ≤ 200
structure TInv (k : Nat) (s : MS) (hs : Nat → HD) (os : Nat → Bool) (n : Nat → Nat) (q sw hd : List Nat) : Prop where
  rb : RB s hs
  si : SI 1 s (vh hs) n q sw hd
  hand : HandOK hs
  out : OutOKs hs os
  rd : ∀ t, t < 4 → (hs t).s ≠ 0 → (hs t).rd = true
  lo : ∀ t, t < k → n t = f9 (hs t)
  hi : ∀ t, k ≤ t → t < 4 → n t = 1 ∧ (hs t).s = 0
variable {k : Nat} {os : Nat → Bool}
theorem TInv.noBlk (h : TInv k s hs os n q sw hd) : ¬ Blk s hs := by
  rintro ⟨_, t, ht, h10, hw⟩
  have := h.rd t ht (by omega)
  rw [hw] at this
  exact absurd this (by decide)
theorem TInv.os0 (h : TInv k s hs os n q sw hd) {t : Nat} (ht : t < 4) : os t = false := by
  rw [h.out t ht]
  refine goes_no fun e => ?_
  have := h.rd t ht (by omega)
  rw [e.1] at this
  exact absurd this (by decide)
theorem TInv.act (h : TInv k s hs os n q sw hd) {A C : Nat} (hc : RCost s hs q n 1 A C) : A < 4 ∧ n A = 0 ∧ A < k := by
  obtain ⟨a, c, hc, he, _, hn⟩ := hc
  have := hn h.noBlk
  subst this
  have h4 := hc.lt h.si.pi.qi
  have hn1 : n A < 1 := by
    cases q with
    | nil => exact hc.2.1
    | cons b r => obtain ⟨e, _, k⟩ := hc; exact h.si.pi.memlt k.mem
  refine ⟨h4, by omega, ?_⟩
  by_cases hk : A < k
  · exact hk
  · have := (h.hi A (by omega) h4).1
    omega
theorem TInv.bound (h : TInv k s hs os n q sw hd) (hk : k ≤ 4) : remN n 1 + sum4 f9 hs ≤ k := by
  have key : ∀ t, t < 4 → (1 - n t) + f9 (hs t) ≤ if t < k then 1 else 0 := fun t ht => by
    by_cases c : t < k
    · rw [if_pos c, h.lo t c]; have := f9_le (hs t); omega
    · rw [if_neg c]
      obtain ⟨h1, h2⟩ := h.hi t (by omega) ht
      have : f9 (hs t) = 0 := if_neg fun e => by omega
      omega
  unfold remN sum4
  have k0 := key 0 (by omega)
  have k1 := key 1 (by omega)
  have k2 := key 2 (by omega)
  have k3 := key 3 (by omega)
  split at k0 <;> split at k1 <;> split at k2 <;> split at k3 <;> omega
theorem TInv.some (h : TInv k s hs os n q sw hd) (hk : k ≤ 4) (h0 : remN n 1 ≠ 0) : ∃ A C, RCost s hs q n 1 A C ∧ C ≤ 10 * k + 2 := by
  obtain ⟨a, c, hc, hle⟩ := h.si.pi.costs h0
  obtain ⟨A, C, k1, k2⟩ := RCost.some h.rb h.si hc
  have := h.bound hk
  exact ⟨A, C, k1, by omega⟩
theorem TPot.key {len j : Nat} (h : TInv k s hs os n q sw hd) (hk0 : 0 < k) (hk : k ≤ 4) (hp : TPot s hs q n k len j) (hj : len ≤ j) (h0 : remN n 1 ≠ 0) : ∃ A C, RCost s hs q n 1 A C ∧ k * C + distK k j A + (j - len) ≤ 200 := by
  rcases hp with hp | hp | hp
  · obtain ⟨A, C, k1, k2⟩ := h.some hk h0
    refine ⟨A, C, k1, ?_⟩
    unfold distK
    rcases (show k = 1 ∨ k = 2 ∨ k = 3 ∨ k = 4 by omega) with rfl | rfl | rfl | rfl <;> omega
  · exact absurd hp h0
  · exact hp
theorem TPot.step {len j : Nat} (h : TInv k s hs os n q sw hd) (hk0 : 0 < k) (hk : k ≤ 4) (hp : TPot s hs q n k len j) (hj : j % k = t ∨ j < len) (hs2 : RStep s hs q n s' hs' q' n' 1 t) (h0 : remN n 1 ≠ 0) : TPot s' hs' q' n' k len (j + 1) := by
  by_cases hlt : j + 1 ≤ len
  · exact .inl hlt
  by_cases h0' : remN n' 1 = 0
  · exact .inr (.inl h0')
  have hjt : j % k = t := by omega
  obtain ⟨A, C, k1, k2⟩ := TPot.key h hk0 hk hp (by omega) h0
  obtain ⟨s1, s2⟩ := hs2 A C (.inl k1)
  obtain ⟨_, _, hA⟩ := h.act k1
  have better : RBetter s' hs' q' n' 1 C → TPot s' hs' q' n' k len (j + 1) := fun hbt => by
    rcases hbt with hbt | ⟨A', C', k3, k4 | k4⟩
    · exact absurd hbt.1 h0'
    · refine .inr (.inr ⟨A', C', k4, ?_⟩)
      unfold distK at k2 ⊢
      rcases (show k = 1 ∨ k = 2 ∨ k = 3 ∨ k = 4 by omega) with rfl | rfl | rfl | rfl <;> omega
    · exact absurd k4.1 h0'
  by_cases e : t = A
  · exact better (s1 e)
  · rcases s2 e with (k3 | k3) | k3
    · refine .inr (.inr ⟨A, C, k3, ?_⟩)
      unfold distK at k2 ⊢
      rcases (show k = 1 ∨ k = 2 ∨ k = 3 ∨ k = 4 by omega) with rfl | rfl | rfl | rfl <;> omega
    · exact absurd k3.1 h0'
    · exact better k3
theorem TPot.idle {len j : Nat} (h : TInv k s hs os n q sw hd) (hk0 : 0 < k) (hk : k ≤ 4) (hp : TPot s hs q n k len j) (hj : j % k = t ∨ j < len) (h1 : n t = 1) : TPot s hs q n k len (j + 1) := by
  by_cases hlt : j + 1 ≤ len
  · exact .inl hlt
  by_cases h0 : remN n 1 = 0
  · exact .inr (.inl h0)
  have hjt : j % k = t := by omega
  obtain ⟨A, C, k1, k2⟩ := TPot.key h hk0 hk hp (by omega) h0
  obtain ⟨_, hn, hA⟩ := h.act k1
  have e : t ≠ A := fun e => by rw [e] at h1; omega
  refine .inr (.inr ⟨A, C, k1, ?_⟩)
  unfold distK at k2 ⊢
  rcases (show k = 1 ∨ k = 2 ∨ k = 3 ∨ k = 4 by omega) with rfl | rfl | rfl | rfl <;> omega
theorem TPot.done {len : Nat} (h : TInv k s hs os n q sw hd) (hp : TPot s hs q n k len (len + 200)) : remN n 1 = 0 := by
  rcases hp with hp | hp | ⟨A, C, k1, k2⟩
  · omega
  · exact hp
  · have := RAct.pos h.rb h.si (.inl k1)
    have hk := (h.act k1).2.2
    have : 1 ≤ k * C := Nat.mul_pos (by omega) (by omega)
    omega
/-- A hand that holds the lock stays as it is. -/
theorem crStep_idle {t : Nat} (ht : t < 4) (e1 : (hs t).t = t) (e2 : (hs t).l = 0) (h9 : (hs t).s = 9) (v : Int) (read : Bool) : crStep s (hs t) false v t read false = ⟨s, hs t, false, v⟩ := by
  have hcr : crH (hs t) false t read = hs t := if_neg fun e => by omega
  have hT : rwTake mp4 s (hs t) = (hs t, s) := by
    unfold rwTake
    rw [if_pos (may_of ht e1 e2), if_neg (by omega), if_neg (by omega), if_neg (fun e => by omega)]
  rw [crStep_go, hcr, crGo_take (crO_no rfl (.inr rfl)), hT]
/-- A step of a crowd of readers. -/
theorem TInv.step {len j : Nat} (h : TInv k s hs os n q sw hd) (hk0 : 0 < k) (hk : k ≤ 4) (ht : t < k) (hp : TPot s hs q n k len j) (hj : j % k = t ∨ j < len) (v : Int) :
    ∃ n' q' sw' hd', TInv k (crStep s (hs t) (os t) v t true false).s (upd hs t (crStep s (hs t) (os t) v t true false).h) (updV os t (crStep s (hs t) (os t) v t true false).o) n' q' sw' hd' ∧
      TPot (crStep s (hs t) (os t) v t true false).s (upd hs t (crStep s (hs t) (os t) v t true false).h) q' n' k len (j + 1) := by
  have ht4 : t < 4 := by omega
  have ho := h.os0 ht4
  by_cases h9 : (hs t).s = 9
  · obtain ⟨e1, e2⟩ := h.hand t ht4 (by omega)
    have hr := h.rd t ht4 (by omega)
    rw [ho, crStep_idle ht4 e1 e2 h9]
    have hou : updV os t false = os := by
      funext i
      by_cases e : i = t
      · rw [e, updV_at, ho]
      · rw [updV_ne e]
    refine ⟨n, q, sw, hd, ?_, ?_⟩
    · show TInv k s (upd hs t (hs t)) (updV os t false) n q sw hd
      rw [upd_idem, hou]; exact h
    · show TPot s (upd hs t (hs t)) q n k len (j + 1)
      rw [upd_idem]
      exact hp.idle h hk0 hk hj (by rw [h.lo t ht]; exact if_pos ⟨hr, h9⟩)
  · have hn0 : n t = 0 := by rw [h.lo t ht]; exact if_neg fun e => h9 e.2
    have hf0 : f9 (hs t) = 0 := if_neg fun e => h9 e.2
    obtain ⟨q', n', sw', hd', K, k1, k2, k3, k4, k5, k6, k7, k8, k9, k10, k11⟩ := cr_step h.rb h.si h.hand h.out ht4 (fun _ => by omega) v true false
    have hK := k11 rfl ho
    have hrem : remN n 1 ≠ 0 := by have := remN_pos (R := 1) ht4 (n := n) (by omega); omega
    refine ⟨n', q', sw', hd', ⟨k1, k2, k3, k4, fun i hi hs0 => ?_, fun i hi => ?_, fun i hi hi4 => ?_⟩, TPot.step h hk0 hk hp hj (k9 fun e => absurd e h9) hrem⟩
    · by_cases e : i = t
      · rw [e, upd_at, k10]
        by_cases c : (hs t).s = 0
        · rw [if_pos c]
        · rw [if_neg c]; exact h.rd t ht4 c
      · rw [upd_ne e] at hs0 ⊢; exact h.rd i hi hs0
    · by_cases e : i = t
      · rw [e, upd_at]; omega
      · rw [upd_ne e, k8 i e]; exact h.lo i hi
    · have e : i ≠ t := by omega
      rw [upd_ne e, k8 i e]; exact h.hi i hi hi4
theorem SI.startK {k : Nat} : ∃ hd, SI 1 (MS.new (zrow 48)) (vh fun _ => h0) (fun t => if t < k then 0 else 1) [] hd hd := by
  refine ⟨List.replicate (sumN fun t => if t < k then 0 else 1) 0, zrow_len 48, fun _ _ => ⟨rfl, rfl⟩, QI.start0, fun t _ => ?_, fun t _ h => absurd rfl h, rfl, ?_⟩
  · show (if t < k then 0 else 1) ≤ 1
    split <;> omega
  · rw [List.length_replicate]; rfl
theorem TInv.start (k : Nat) : ∃ n sw hd, TInv k (MS.new (zrow 48)) (fun _ => h0) (fun _ => false) n [] sw hd := by
  obtain ⟨hd, hS⟩ := SI.startK (k := k)
  exact ⟨_, hd, hd, RB.start, hS, fun _ _ h => absurd rfl h, fun _ _ => rfl, fun _ _ h => absurd rfl h, fun t ht => by show (if t < k then 0 else 1) = f9 h0; rw [if_pos ht]; rfl, fun t ht _ => ⟨by show (if t < k then 0 else 1) = 1; rw [if_neg (by omega)], rfl⟩⟩
/-- All readers hold it together. -/
theorem TInv.all (h : TInv k s hs os n q sw hd) (hk : k ≤ 4) (h0 : remN n 1 = 0) : heldW hs 4 = 0 ∧ heldR hs 4 = k ∧ s.zs.getD 7 0 = (k : Nat) := by
  have h1 : ∀ t, t < 4 → 1 ≤ n t := fun t ht => remN_none h0 ht
  have lo : ∀ t, t < 4 → t < k → (hs t).rd = true ∧ (hs t).s = 9 := fun t ht hk' => f9_is (by have := h.lo t hk'; have := h1 t ht; omega)
  have hi : ∀ t, t < 4 → ¬ t < k → (hs t).s = 0 := fun t ht hk' => (h.hi t (by omega) ht).2
  have fW : ∀ t, t < 4 → ¬ ((hs t).s = 9 ∧ (hs t).rd = false) := fun t ht e => by
    by_cases c : t < k
    · have := (lo t ht c).1; rw [e.2] at this; exact absurd this (by decide)
    · have := hi t ht c; omega
  have fR : ∀ t, t < 4 → ((if (hs t).s = 9 ∧ (hs t).rd = true then 1 else 0) = if t < k then 1 else 0) := fun t ht => by
    by_cases c : t < k
    · rw [if_pos c, if_pos ⟨(lo t ht c).2, (lo t ht c).1⟩]
    · rw [if_neg c, if_neg fun e => by have := hi t ht c; omega]
  have fF : ∀ t, t < 4 → fin (hs t) = if t < k then 1 else 0 := fun t ht => by
    by_cases c : t < k
    · rw [if_pos c]; exact if_pos ⟨(lo t ht c).1, .inl (lo t ht c).2⟩
    · rw [if_neg c]; exact if_neg fun e => by have := hi t ht c; omega
  refine ⟨?_, ?_, ?_⟩
  · simp only [heldW, if_neg (fW 0 (by omega)), if_neg (fW 1 (by omega)), if_neg (fW 2 (by omega)), if_neg (fW 3 (by omega))]
  · simp only [heldR, fR 0 (by omega), fR 1 (by omega), fR 2 (by omega), fR 3 (by omega)]
    rcases (show k = 0 ∨ k = 1 ∨ k = 2 ∨ k = 3 ∨ k = 4 by omega) with rfl | rfl | rfl | rfl | rfl <;> rfl
  · rw [h.rb.cnt]
    unfold sum4
    rw [fF 0 (by omega), fF 1 (by omega), fF 2 (by omega), fF 3 (by omega)]
    rcases (show k = 0 ∨ k = 1 ∨ k = 2 ∨ k = 3 ∨ k = 4 by omega) with rfl | rfl | rfl | rfl | rfl <;> rfl
end

end Go.Proofs.Ytmcmajndcbobpaa
