/-
  A queue of four hands: how far it is to the end, who was there in which order. No program.
-/
import Derived.Test.YtmcmajndcbobpaaMcOrdP
namespace Go.Proofs.Ytmcmajndcbobpaa
open Go.RowKit

def sumN (n : Nat → Nat) : Nat := n 0 + n 1 + n 2 + n 3
def remN (n : Nat → Nat) (R : Nat) : Nat := (R - n 0) + (R - n 1) + (R - n 2) + (R - n 3)
theorem four_cases {t : Nat} (h : t < 4) : t = 0 ∨ t = 1 ∨ t = 2 ∨ t = 3 := by omega
theorem remN_pos {n : Nat → Nat} {R t : Nat} (ht : t < 4) (h : n t < R) : 1 ≤ remN n R := by
  unfold remN
  rcases four_cases ht with rfl | rfl | rfl | rfl <;> omega
theorem remN_up {n : Nat → Nat} {R t : Nat} (ht : t < 4) (h : n t < R) : remN (updW n t (n t + 1)) R + 1 = remN n R := by
  unfold remN
  rcases four_cases ht with rfl | rfl | rfl | rfl <;> simp [updW] <;> omega
theorem sumN_up {n : Nat → Nat} {t : Nat} (ht : t < 4) : sumN (updW n t (n t + 1)) = sumN n + 1 := by
  unfold sumN
  rcases four_cases ht with rfl | rfl | rfl | rfl <;> simp [updW] <;> omega
theorem remN_some {n : Nat → Nat} {R : Nat} (h : remN n R ≠ 0) : ∃ t, t < 4 ∧ n t < R := by
  unfold remN at h
  by_cases h0 : n 0 < R
  · exact ⟨0, by omega, h0⟩
  by_cases h1 : n 1 < R
  · exact ⟨1, by omega, h1⟩
  by_cases h2 : n 2 < R
  · exact ⟨2, by omega, h2⟩
  exact ⟨3, by omega, by omega⟩
theorem remN_none {n : Nat → Nat} {R : Nat} (h : remN n R = 0) {t : Nat} (ht : t < 4) : R ≤ n t := by
  unfold remN at h
  rcases four_cases ht with rfl | rfl | rfl | rfl <;> omega
theorem remN_le (n : Nat → Nat) (R : Nat) : remN n R ≤ 4 * R := by unfold remN; omega

def gcost (v : VS) (a : Nat) : Nat := if v.st a = 0 then 5 else if v.st a = 1 then 4 else if v.st a = 2 then 3 else if v.x a = 0 then 1 else 2
theorem gcost_le (v : VS) (a : Nat) : 1 ≤ gcost v a ∧ gcost v a ≤ 5 := by unfold gcost; repeat' split
                                                                          all_goals omega
def HC (v : VS) (h : Nat) (r : List Nat) (a e : Nat) : Prop :=
  (v.st h = 5 ∧ a = h ∧ e = 6) ∨ (v.st h = 9 ∧ a = h ∧ e = 5) ∨ (v.st h = 7 ∧ a = h ∧ e = 4) ∨
  (v.st h = 6 ∧ ∃ b r', r = b :: r' ∧ ((v.st b = 4 ∧ a = b ∧ e = 3) ∨ (v.st b = 5 ∧ a = h ∧ e = 2))) ∨ (v.st h = 8 ∧ a = h ∧ e = 1)
/-- Who goes on next, and how far it is at most. -/
def Cost (v : VS) (q : List Nat) (n : Nat → Nat) (R a c : Nat) : Prop :=
  match q with
  | [] => a < 4 ∧ n a < R ∧ c + 8 = 8 * remN n R + 5 + gcost v a
  | h :: r => ∃ e, c + 8 = 8 * remN n R + e ∧ HC v h r a e
theorem HC.e_le {v : VS} {h : Nat} {r : List Nat} {a e : Nat} (k : HC v h r a e) : 1 ≤ e ∧ e ≤ 6 := by
  rcases k with ⟨_, _, k⟩ | ⟨_, _, k⟩ | ⟨_, _, k⟩ | ⟨_, b, r', _, ⟨_, _, k⟩ | ⟨_, _, k⟩⟩ | ⟨_, _, k⟩ <;> omega
theorem HC.mem {v : VS} {h : Nat} {r : List Nat} {a e : Nat} (k : HC v h r a e) : a ∈ h :: r := by
  rcases k with ⟨_, k, _⟩ | ⟨_, k, _⟩ | ⟨_, k, _⟩ | ⟨_, b, r', hr, ⟨_, k, _⟩ | ⟨_, k, _⟩⟩ | ⟨_, k, _⟩ <;> subst k <;> simp_all
theorem HC.congr {v v' : VS} {h : Nat} {r : List Nat} {a e : Nat} (k : HC v h r a e) (hs : ∀ j, j ∈ h :: r → v'.st j = v.st j) : HC v' h r a e := by
  unfold HC
  rw [hs h (by simp)]
  rcases k with k | k | k | ⟨k, b, r', hr, k2⟩ | k
  · exact .inl k
  · exact .inr (.inl k)
  · exact .inr (.inr (.inl k))
  · exact .inr (.inr (.inr (.inl ⟨k, b, r', hr, by rw [hs b (by simp [hr])]; exact k2⟩)))
  · exact .inr (.inr (.inr (.inr k)))

def LstQ (v : VS) (q : List Nat) (sw hd : List Nat) : Prop :=
  match q with
  | [] => sw = hd
  | h :: r => if 5 < v.st h then sw = hd ++ r else sw = hd ++ h :: r
def busy (v : VS) : List Nat → Nat
  | [] => 0
  | h :: _ => if 5 < v.st h then 1 else 0
structure PI (v : VS) (q : List Nat) (n : Nat → Nat) (R : Nat) (sw hd : List Nat) : Prop where
  qi : QI v q
  le : ∀ t, t < 4 → n t ≤ R
  act : ∀ t, t < 4 → v.st t ≠ 0 → n t < R
  lst : LstQ v q sw hd
  cnt : hd.length = sumN n + busy v q

def Better (v : VS) (q : List Nat) (n : Nat → Nat) (R c : Nat) : Prop := remN n R = 0 ∨ ∃ a' c', c' < c ∧ Cost v q n R a' c'
def StepC (v : VS) (q : List Nat) (n : Nat → Nat) (v' : VS) (q' : List Nat) (n' : Nat → Nat) (R t : Nat) : Prop :=
  ∀ a c, Cost v q n R a c → (t = a → Better v' q' n' R c) ∧ (t ≠ a → Cost v' q' n' R a c ∨ Better v' q' n' R c)

theorem PI.memlt {v : VS} {q : List Nat} {n : Nat → Nat} {R : Nat} {sw hd : List Nat} (h : PI v q n R sw hd) {t : Nat} (ht : t ∈ q) : n t < R := h.act t (h.qi.lt t ht) (by have := (h.qi.inq ht).1; omega)
theorem Cost.lt {v : VS} {q : List Nat} {n : Nat → Nat} {R a c : Nat} (h : QI v q) (k : Cost v q n R a c) : a < 4 := by
  cases q with
  | nil => exact k.1
  | cons b r => obtain ⟨e, _, k⟩ := k; exact h.lt a k.mem
theorem Cost.pos {v : VS} {q : List Nat} {n : Nat → Nat} {R a c : Nat} {sw hd : List Nat} (h : PI v q n R sw hd) (k : Cost v q n R a c) : 1 ≤ c := by
  cases q with
  | nil => obtain ⟨k1, k2, k3⟩ := k; have := remN_pos k1 k2; have := gcost_le v a; omega
  | cons b r => obtain ⟨e, k1, k2⟩ := k; have := k2.e_le; have := remN_pos (h.qi.lt b (by simp)) (h.memlt (t := b) (by simp)); omega
theorem PI.costs {v : VS} {q : List Nat} {n : Nat → Nat} {R : Nat} {sw hd : List Nat} (h : PI v q n R sw hd) (hr : remN n R ≠ 0) : ∃ a c, Cost v q n R a c ∧ c ≤ 8 * remN n R + 2 := by
  cases q with
  | nil =>
    obtain ⟨t, ht, hn⟩ := remN_some hr
    have := gcost_le v t
    exact ⟨t, 8 * remN n R + 5 + gcost v t - 8, ⟨ht, hn, by omega⟩, by omega⟩
  | cons b r =>
    obtain ⟨_, h2, h3⟩ := h.qi.body
    have key : ∃ a e, HC v b r a e := by
      rcases h2 with ⟨h5, _⟩ | h9 | h7 | ⟨h6, hne⟩ | ⟨h8, _⟩
      · exact ⟨_, _, .inl ⟨h5, rfl, rfl⟩⟩
      · exact ⟨_, _, .inr (.inl ⟨h9, rfl, rfl⟩)⟩
      · exact ⟨_, _, .inr (.inr (.inl ⟨h7, rfl, rfl⟩))⟩
      · cases r with
        | nil => exact absurd rfl hne
        | cons d r' =>
          rcases (h3.mem d (by simp)).2 with hd | hd
          · exact ⟨_, _, .inr (.inr (.inr (.inl ⟨h6, d, r', rfl, .inl ⟨hd, rfl, rfl⟩⟩)))⟩
          · exact ⟨_, _, .inr (.inr (.inr (.inl ⟨h6, d, r', rfl, .inr ⟨hd, rfl, rfl⟩⟩)))⟩
      · exact ⟨_, _, .inr (.inr (.inr (.inr ⟨h8, rfl, rfl⟩)))⟩
    obtain ⟨a, e, he⟩ := key
    have := he.e_le
    exact ⟨a, 8 * remN n R + e - 8, ⟨e, by omega, he⟩, by omega⟩

section
variable {v v' : VS} {n : Nat → Nat} {R : Nat} {sw hd : List Nat} {t : Nat}

/-- One that is not in the queue does something of its own. -/
theorem PI.outS {q : List Nat} (h : PI v q n R sw hd) (hn : n t < R) (hq : t ∉ q) (hT : v'.T = v.T)
    (hf : ∀ j, j ≠ t → v'.st j = v.st j ∧ v'.x j = v.x j ∧ v'.g j = v.g j ∧ v'.k j = v.k j) (ho : OutOk v' t) (hc : q = [] → gcost v' t < gcost v t) :
    PI v' q n R sw hd ∧ StepC v q n v' q n R t := by
  have ne : ∀ j, j ∈ q → j ≠ t := fun j hj e => hq (e ▸ hj)
  refine ⟨⟨h.qi.outside hq hT hf ho, h.le, fun j hj hs => ?_, ?_, ?_⟩, fun a c hac => ?_⟩
  · by_cases e : j = t
    · rw [e]; exact hn
    · rw [(hf j e).1] at hs; exact h.act j hj hs
  · have := h.lst
    cases q with
    | nil => exact this
    | cons b r => unfold LstQ at this ⊢; simp only [(hf b (ne b (by simp))).1]; exact this
  · rw [h.cnt]
    cases q with
    | nil => rfl
    | cons b r => unfold busy; simp only [(hf b (ne b (by simp))).1]
  · cases q with
    | nil =>
      obtain ⟨k1, k2, k3⟩ := hac
      have hg := hc rfl
      refine ⟨fun e => ?_, fun e => .inl ⟨k1, k2, ?_⟩⟩
      · subst e
        exact .inr ⟨t, c - (gcost v t - gcost v' t), by have := remN_pos k1 k2; have := gcost_le v' t; omega, k1, k2, by have := remN_pos k1 k2; have := gcost_le v' t; omega⟩
      · obtain ⟨f1, f2, _, _⟩ := hf a (fun h => e h.symm)
        rw [k3]
        unfold gcost
        rw [f1, f2]
    | cons b r =>
      obtain ⟨e, k1, k2⟩ := hac
      refine ⟨fun ee => absurd (ee ▸ k2.mem) hq, fun _ => .inl ⟨e, k1, k2.congr fun j hj => (hf j (ne j hj)).1⟩⟩
theorem PI.enterS (h : PI v [] n R sw hd) (ht : t < 4) (hn : n t < R) (hs : v.st t = 3) :
    PI { v with st := updW v.st t 9, T := idq t } [t] n R (sw ++ [t]) (hd ++ [t]) ∧ StepC v [] n { v with st := updW v.st t 9, T := idq t } [t] n R t := by
  refine ⟨⟨h.qi.enter ht hs, h.le, fun j hj hs' => ?_, ?_, ?_⟩, fun a c hac => ?_⟩
  · by_cases e : j = t
    · rw [e]; exact hn
    · simp only [updW_ne e] at hs'; exact h.act j hj hs'
  · have hl : sw = hd := h.lst
    show if 5 < updW v.st t 9 t then sw ++ [t] = hd ++ [t] ++ [] else _
    rw [updW_at, if_pos (by decide), hl, List.append_nil]
  · have := h.cnt
    show (hd ++ [t]).length = sumN n + (if 5 < updW v.st t 9 t then 1 else 0)
    rw [updW_at, if_pos (by decide), List.length_append, this]
    rfl
  · obtain ⟨k1, k2, k3⟩ := hac
    have hb : Better { v with st := updW v.st t 9, T := idq t } [t] n R c := .inr ⟨t, c - gcost v a, by have := gcost_le v a; have := remN_pos k1 k2; omega, 5, by have := gcost_le v a; have := remN_pos k1 k2; omega, .inr (.inl ⟨updW_at _ _ _, rfl, rfl⟩)⟩
    exact ⟨fun _ => hb, fun _ => .inr hb⟩
theorem PI.joinS {b : Nat} {r : List Nat} (h : PI v (b :: r) n R sw hd) (ht : t < 4) (hn : n t < R) (hs : v.st t = 3) (hx : v.x t = v.T) :
    PI { v with st := updW v.st t 4, T := idq t } (b :: (r ++ [t])) n R (sw ++ [t]) hd ∧ StepC v (b :: r) n { v with st := updW v.st t 4, T := idq t } (b :: (r ++ [t])) n R t := by
  have hq := h.qi.notq (t := t) (by omega)
  have ne : ∀ j, j ∈ b :: r → j ≠ t := fun j hj e => hq (e ▸ hj)
  refine ⟨⟨h.qi.join ht hs hx, h.le, fun j hj hs' => ?_, ?_, ?_⟩, fun a c hac => ?_⟩
  · by_cases e : j = t
    · rw [e]; exact hn
    · simp only [updW_ne e] at hs'; exact h.act j hj hs'
  · have this : (if 5 < v.st b then sw = hd ++ r else sw = hd ++ b :: r) := h.lst
    show (if 5 < updW v.st t 4 b then sw ++ [t] = hd ++ (r ++ [t]) else sw ++ [t] = hd ++ b :: (r ++ [t]))
    rw [updW_ne (ne b (by simp))]
    split
    · rw [if_pos (by assumption)] at this; rw [this, List.append_assoc]
    · rw [if_neg (by assumption)] at this; rw [this, List.append_assoc, List.cons_append]
  · rw [h.cnt]
    unfold busy
    simp only [updW_ne (ne b (by simp))]
  · obtain ⟨e, k1, k2⟩ := hac
    refine ⟨fun ee => absurd (ee ▸ k2.mem) hq, fun _ => .inl ⟨e, k1, ?_⟩⟩
    have := k2.congr (v' := { v with st := updW v.st t 4, T := idq t }) fun j hj => updW_ne (ne j hj)
    rcases this with k | k | k | ⟨k, d, r', hr, k2⟩ | k
    · exact .inl k
    · exact .inr (.inl k)
    · exact .inr (.inr (.inl k))
    · exact .inr (.inr (.inr (.inl ⟨k, d, r' ++ [t], by rw [hr, List.cons_append], k2⟩)))
    · exact .inr (.inr (.inr (.inr k)))
theorem PI.tellS {b : Nat} {r : List Nat} (h : PI v (b :: r) n R sw hd) (htr : t ∈ r) (hs : v.st t = 4) :
    ∃ p, p < 4 ∧ v.x t = idq p ∧ PI { v with k := updW v.k p (idq t), st := updW v.st t 5, x := updW v.x t 0 } (b :: r) n R sw hd ∧
      StepC v (b :: r) n { v with k := updW v.k p (idq t), st := updW v.st t 5, x := updW v.x t 0 } (b :: r) n R t := by
  have hbt : b ≠ t := fun e => (List.nodup_cons.1 h.qi.nd).1 (e ▸ htr)
  obtain ⟨p, hp, hx, hqi⟩ := h.qi.tell htr hs
  refine ⟨p, hp, hx, ⟨hqi, h.le, fun j hj hs' => ?_, ?_, ?_⟩, fun a c hac => ?_⟩
  · by_cases e : j = t
    · exact h.act j hj (by rw [e, hs]; decide)
    · simp only [updW_ne e] at hs'; exact h.act j hj hs'
  · have := h.lst
    unfold LstQ at this ⊢
    simp only [updW_ne hbt]
    exact this
  · rw [h.cnt]
    unfold busy
    simp only [updW_ne hbt]
  · obtain ⟨e, k1, k2⟩ := hac
    have hrem := remN_pos (h.qi.lt b (by simp)) (h.memlt (t := b) (by simp))
    rcases k2 with ⟨g1, g2, g3⟩ | ⟨g1, g2, g3⟩ | ⟨g1, g2, g3⟩ | ⟨g1, d, r', hr, k2⟩ | ⟨g1, g2, g3⟩
    · exact ⟨fun ee => absurd (g2.symm.trans ee.symm) hbt, fun _ => .inl ⟨e, k1, .inl ⟨by simp only [updW_ne hbt]; exact g1, g2, g3⟩⟩⟩
    · exact ⟨fun ee => absurd (g2.symm.trans ee.symm) hbt, fun _ => .inl ⟨e, k1, .inr (.inl ⟨by simp only [updW_ne hbt]; exact g1, g2, g3⟩)⟩⟩
    · exact ⟨fun ee => absurd (g2.symm.trans ee.symm) hbt, fun _ => .inl ⟨e, k1, .inr (.inr (.inl ⟨by simp only [updW_ne hbt]; exact g1, g2, g3⟩))⟩⟩
    · by_cases ed : d = t
      · subst ed
        rcases k2 with ⟨k2, k3, k4⟩ | ⟨k2, _, _⟩
        · have hb : Better { v with k := updW v.k p (idq d), st := updW v.st d 5, x := updW v.x d 0 } (b :: r) n R c := .inr ⟨b, c - 1, by omega, 2, by omega, .inr (.inr (.inr (.inl ⟨by simp only [updW_ne hbt]; exact g1, d, r', hr, .inr ⟨updW_at _ _ _, rfl, rfl⟩⟩)))⟩
          exact ⟨fun _ => hb, fun _ => .inr hb⟩
        · omega
      · refine ⟨fun ee => ?_, fun _ => .inl ⟨e, k1, .inr (.inr (.inr (.inl ⟨by simp only [updW_ne hbt]; exact g1, d, r', hr, by simp only [updW_ne ed]; exact k2⟩)))⟩⟩
        rcases k2 with ⟨_, k3, _⟩ | ⟨_, k3, _⟩
        · exact absurd (k3.symm.trans ee.symm) ed
        · exact absurd (k3.symm.trans ee.symm) hbt
    · exact ⟨fun ee => absurd (g2.symm.trans ee.symm) hbt, fun _ => .inl ⟨e, k1, .inr (.inr (.inr (.inr ⟨by simp only [updW_ne hbt]; exact g1, g2, g3⟩)))⟩⟩
/-- It waits on. -/
theorem PI.stayS {b : Nat} {r : List Nat} (h : PI v (b :: r) n R sw hd) (htr : t ∈ r) (hs : v.st t = 5) : StepC v (b :: r) n v (b :: r) n R t := by
  intro a c hac
  have hbt : b ≠ t := fun e => (List.nodup_cons.1 h.qi.nd).1 (e ▸ htr)
  refine ⟨fun ee => ?_, fun _ => .inl hac⟩
  obtain ⟨e, k1, k2⟩ := hac
  rcases k2 with ⟨_, g2, _⟩ | ⟨_, g2, _⟩ | ⟨_, g2, _⟩ | ⟨_, d, r', hr, ⟨g1, g2, _⟩ | ⟨_, g2, _⟩⟩ | ⟨_, g2, _⟩
  · exact absurd (g2.symm.trans ee.symm) hbt
  · exact absurd (g2.symm.trans ee.symm) hbt
  · exact absurd (g2.symm.trans ee.symm) hbt
  · rw [← g2, ← ee] at g1; omega
  · exact absurd (g2.symm.trans ee.symm) hbt
  · exact absurd (g2.symm.trans ee.symm) hbt
/-- The first one goes on, the queue as it stands. -/
theorem PI.headS {r : List Nat} (h : PI v (t :: r) n R sw hd) {s' x' : Int} {hd' : List Nat} {e' : Nat} (hh : HeadOk { v with st := updW v.st t s', x := updW v.x t x' } t r)
    (hl : LstQ { v with st := updW v.st t s', x := updW v.x t x' } (t :: r) sw hd') (hc : hd'.length = sumN n + busy { v with st := updW v.st t s', x := updW v.x t x' } (t :: r))
    (he : ∀ a e, HC v t r a e → a = t ∧ e' < e) (hk : ∃ a', HC { v with st := updW v.st t s', x := updW v.x t x' } t r a' e') :
    PI { v with st := updW v.st t s', x := updW v.x t x' } (t :: r) n R sw hd' ∧ StepC v (t :: r) n { v with st := updW v.st t s', x := updW v.x t x' } (t :: r) n R t := by
  have hnt := h.memlt (t := t) (by simp)
  have hrem := remN_pos (h.qi.lt t (by simp)) hnt
  refine ⟨⟨h.qi.head hh, h.le, fun j hj hs' => ?_, hl, hc⟩, fun a c hac => ?_⟩
  · by_cases e : j = t
    · rw [e]; exact hnt
    · simp only [updW_ne e] at hs'; exact h.act j hj hs'
  · obtain ⟨e, k1, k2⟩ := hac
    obtain ⟨e1, e2⟩ := he a e k2
    obtain ⟨a', hk⟩ := hk
    have := hk.e_le
    have hb : Better { v with st := updW v.st t s', x := updW v.x t x' } (t :: r) n R c := .inr ⟨a', c - (e - e'), by omega, e', by omega, hk⟩
    exact ⟨fun _ => hb, fun _ => .inr hb⟩
theorem PI.leaveS (h : PI v [t] n R sw hd) (hs : v.st t = 7) (x' : Int) :
    PI { v with st := updW v.st t 0, x := updW v.x t x', T := 0 } [] (updW n t (n t + 1)) R sw hd ∧ StepC v [t] n { v with st := updW v.st t 0, x := updW v.x t x', T := 0 } [] (updW n t (n t + 1)) R t := by
  have ht := h.qi.lt t (by simp)
  have hnt := h.memlt (t := t) (by simp)
  have hup := remN_up ht hnt
  refine ⟨⟨h.qi.leave x', fun j hj => ?_, fun j hj hs' => ?_, ?_, ?_⟩, fun a c hac => ?_⟩
  · by_cases e : j = t
    · rw [e, updW_at]; exact hnt
    · rw [updW_ne e]; exact h.le j hj
  · by_cases e : j = t
    · subst e; exact absurd (updW_at _ _ _) hs'
    · simp only [updW_ne e] at hs' ⊢; exact h.act j hj hs'
  · have this : (if 5 < v.st t then sw = hd ++ [] else sw = hd ++ [t]) := h.lst
    rw [if_pos (by omega), List.append_nil] at this
    exact this
  · have this : hd.length = sumN n + (if 5 < v.st t then 1 else 0) := h.cnt
    rw [if_pos (by omega)] at this
    rw [this, sumN_up ht]
    rfl
  · obtain ⟨e, k1, k2⟩ := hac
    have he : e = 4 := by rcases k2 with ⟨g, _⟩ | ⟨g, _⟩ | ⟨_, _, g⟩ | ⟨g, _⟩ | ⟨g, _⟩ <;> omega
    have hb : Better { v with st := updW v.st t 0, x := updW v.x t x', T := 0 } [] (updW n t (n t + 1)) R c := by
      by_cases h0 : remN (updW n t (n t + 1)) R = 0
      · exact .inl h0
      · obtain ⟨u, hu, hn⟩ := remN_some h0
        have := gcost_le { v with st := updW v.st t 0, x := updW v.x t x', T := 0 } u
        exact .inr ⟨u, 8 * remN (updW n t (n t + 1)) R + 5 + gcost { v with st := updW v.st t 0, x := updW v.x t x', T := 0 } u - 8, by omega, hu, hn, by omega⟩
    exact ⟨fun _ => hb, fun _ => .inr hb⟩
theorem PI.passS {b : Nat} {r : List Nat} (h : PI v (t :: b :: r) n R sw hd) (hs : v.st t = 8) (hb : v.st b = 5) (x' : Int) :
    PI { v with st := updW v.st t 0, x := updW v.x t x', g := updW v.g b 0 } (b :: r) (updW n t (n t + 1)) R sw hd ∧ StepC v (t :: b :: r) n { v with st := updW v.st t 0, x := updW v.x t x', g := updW v.g b 0 } (b :: r) (updW n t (n t + 1)) R t := by
  have ht := h.qi.lt t (by simp)
  have hnt := h.memlt (t := t) (by simp)
  have hup := remN_up ht hnt
  have hbt : b ≠ t := fun e => (List.nodup_cons.1 h.qi.nd).1 (by simp [e])
  have hnb := h.memlt (t := b) (by simp)
  have hrb : 1 ≤ remN (updW n t (n t + 1)) R := remN_pos (h.qi.lt b (by simp)) (by rw [updW_ne hbt]; exact hnb)
  refine ⟨⟨h.qi.pass hb x', fun j hj => ?_, fun j hj hs' => ?_, ?_, ?_⟩, fun a c hac => ?_⟩
  · by_cases e : j = t
    · rw [e, updW_at]; exact hnt
    · rw [updW_ne e]; exact h.le j hj
  · by_cases e : j = t
    · subst e; exact absurd (updW_at _ _ _) hs'
    · simp only [updW_ne e] at hs' ⊢; exact h.act j hj hs'
  · have this : (if 5 < v.st t then sw = hd ++ b :: r else sw = hd ++ t :: b :: r) := h.lst
    show (if 5 < updW v.st t 0 b then sw = hd ++ r else sw = hd ++ b :: r)
    rw [if_pos (by omega)] at this
    rw [updW_ne hbt, if_neg (by omega)]
    exact this
  · have this : hd.length = sumN n + (if 5 < v.st t then 1 else 0) := h.cnt
    show hd.length = sumN (updW n t (n t + 1)) + (if 5 < updW v.st t 0 b then 1 else 0)
    rw [if_pos (by omega)] at this
    rw [updW_ne hbt, if_neg (by omega), this, sumN_up ht]
  · obtain ⟨e, k1, k2⟩ := hac
    have he := k2.e_le
    have hbb : Better { v with st := updW v.st t 0, x := updW v.x t x', g := updW v.g b 0 } (b :: r) (updW n t (n t + 1)) R c :=
      .inr ⟨b, 8 * remN (updW n t (n t + 1)) R + 6 - 8, by omega, 6, by omega, .inl ⟨by simp only [updW_ne hbt]; exact hb, rfl, rfl⟩⟩
    exact ⟨fun _ => hbb, fun _ => .inr hbb⟩
/-- All is done. -/
theorem PI.done {q : List Nat} (h : PI v q n R sw hd) (hr : remN n R = 0) : q = [] ∧ v.T = 0 ∧ sw = hd ∧ hd.length = 4 * R := by
  have hz : ∀ t, t < 4 → n t = R := fun t ht => Nat.le_antisymm (h.le t ht) (remN_none hr ht)
  have hq : q = [] := by
    cases q with
    | nil => rfl
    | cons b r =>
      have h1 := h.memlt (t := b) (by simp)
      have h2 := hz b (h.qi.lt b (by simp))
      omega
  subst hq
  refine ⟨rfl, h.qi.body, h.lst, ?_⟩
  rw [h.cnt]
  show n 0 + n 1 + n 2 + n 3 + 0 = _
  rw [hz 0 (by omega), hz 1 (by omega), hz 2 (by omega), hz 3 (by omega)]
  omega
end

end Go.Proofs.Ytmcmajndcbobpaa
