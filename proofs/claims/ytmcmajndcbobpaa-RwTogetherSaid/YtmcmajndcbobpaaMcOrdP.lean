/-
  A queue of four hands, in plain words: who stands behind whom, and what each step makes of it. No program.
-/
import Derived.Test.YtmcmajndcbobpaaBase
namespace Go.Proofs.Ytmcmajndcbobpaa
open Go.RowKit

def updW {α : Type} (f : Nat → α) (k : Nat) (v : α) : Nat → α := fun j => if j = k then v else f j
theorem updW_at {α : Type} (f : Nat → α) (k : Nat) (v : α) : updW f k v k = v := by simp [updW]
theorem updW_ne {α : Type} {f : Nat → α} {k j : Nat} {v : α} (h : j ≠ k) : updW f k v j = f j := by simp [updW, h]

/-- The number of a thread's node. -/
def idq (t : Nat) : Int := 1 + 2 * (t : Int)
theorem idq_inj {a b : Nat} (h : idq a = idq b) : a = b := by unfold idq at h; omega
theorem idq_ne (t : Nat) : idq t ≠ 0 := by unfold idq; omega

def lastOf : Nat → List Nat → Nat
  | a, [] => a
  | _, b :: r => lastOf b r
theorem lastOf_mem (a : Nat) (r : List Nat) : lastOf a r ∈ a :: r := by
  induction r generalizing a with
  | nil => simp [lastOf]
  | cons b r ih => exact List.mem_cons_of_mem _ (ih b)
theorem lastOf_append (a : Nat) (r : List Nat) (t : Nat) : lastOf a (r ++ [t]) = t := by
  induction r generalizing a with
  | nil => rfl
  | cons b r ih => exact ih b

/-- Of each thread its hand's State and Word, its gate and its link; and the tail. -/
structure VS where
  st : Nat → Int
  x : Nat → Int
  g : Nat → Int
  k : Nat → Int
  T : Int

/-- Who waits: each one is behind the one ahead of it, who was told or not. -/
def Chain (v : VS) : Nat → List Nat → Prop
  | a, [] => v.k a = 0
  | a, b :: r => v.g b = 1 ∧ ((v.st b = 4 ∧ v.x b = idq a ∧ v.k a = 0) ∨ (v.st b = 5 ∧ v.k a = idq b)) ∧ Chain v b r

theorem Chain.congr {v v' : VS} : ∀ {r : List Nat} {a : Nat}, Chain v a r → (∀ j, j ∈ a :: r → v'.k j = v.k j) → (∀ j, j ∈ r → v'.g j = v.g j ∧ v'.st j = v.st j ∧ v'.x j = v.x j) → Chain v' a r
  | [], a, h, hk, _ => (hk a (by simp)).trans h
  | b :: r, a, ⟨h1, h2, h3⟩, hk, hg => by
    obtain ⟨g1, g2, g3⟩ := hg b (by simp)
    refine ⟨by rw [g1]; exact h1, ?_, h3.congr (fun j hj => hk j (List.mem_cons_of_mem _ hj)) (fun j hj => hg j (List.mem_cons_of_mem _ hj))⟩
    rw [g2, g3, hk a (by simp)]
    exact h2
theorem Chain.mem {v : VS} : ∀ {r : List Nat} {a : Nat}, Chain v a r → ∀ b, b ∈ r → v.g b = 1 ∧ (v.st b = 4 ∨ v.st b = 5)
  | [], _, _, _, hb => absurd hb (by simp)
  | c :: r, a, ⟨h1, h2, h3⟩, b, hb => by
    rcases List.mem_cons.1 hb with rfl | hb
    · exact ⟨h1, h2.imp (fun h => h.1) (fun h => h.1)⟩
    · exact h3.mem b hb
theorem Chain.last {v : VS} : ∀ {r : List Nat} {a : Nat}, Chain v a r → v.k (lastOf a r) = 0
  | [], _, h => h
  | _ :: _, _, ⟨_, _, h⟩ => h.last
theorem Chain.append {v : VS} {t : Nat} (hg : v.g t = 1) (hs : v.st t = 4) (hk : v.k t = 0) : ∀ {r : List Nat} {a : Nat}, Chain v a r → v.x t = idq (lastOf a r) → Chain v a (r ++ [t])
  | [], _, h, hx => ⟨hg, .inl ⟨hs, hx, h⟩, hk⟩
  | _ :: _, _, ⟨h1, h2, h3⟩, hx => ⟨h1, h2, h3.append hg hs hk hx⟩
/-- One that waits tells the one ahead of it. -/
theorem Chain.tell {v : VS} {t : Nat} (hs : v.st t = 4) : ∀ {r : List Nat} {a : Nat}, Chain v a r → (a :: r).Nodup → t ∈ r →
    ∃ p, p ∈ a :: r ∧ p ≠ t ∧ v.x t = idq p ∧ Chain { v with k := updW v.k p (idq t), st := updW v.st t 5, x := updW v.x t 0 } a r
  | [], _, _, _, ht => absurd ht (by simp)
  | b :: r, a, ⟨h1, h2, h3⟩, hn, ht => by
    have hab : a ∉ b :: r := (List.nodup_cons.1 hn).1
    have hbr : b ∉ r := (List.nodup_cons.1 (List.nodup_cons.1 hn).2).1
    by_cases e : b = t
    · subst e
      refine ⟨a, by simp, fun e => hab (by simp [e]), ?_, ?_⟩
      · rcases h2 with ⟨_, h, _⟩ | ⟨h, _⟩
        · exact h
        · omega
      · refine ⟨h1, .inr ⟨updW_at _ _ _, updW_at _ _ _⟩, h3.congr (fun j hj => updW_ne fun e => hab (e ▸ hj)) (fun j hj => ⟨rfl, updW_ne fun e => hbr (e ▸ hj), updW_ne fun e => hbr (e ▸ hj)⟩)⟩
    · have ht' : t ∈ r := by rcases List.mem_cons.1 ht with h | h; exact absurd h.symm e; exact h
      obtain ⟨p, hp, hpt, hx, hc⟩ := h3.tell hs (List.nodup_cons.1 hn).2 ht'
      refine ⟨p, List.mem_cons_of_mem _ hp, hpt, hx, h1, ?_, hc⟩
      show (updW v.st t 5 b = 4 ∧ updW v.x t 0 b = idq a ∧ updW v.k p (idq t) a = 0) ∨ (updW v.st t 5 b = 5 ∧ updW v.k p (idq t) a = idq b)
      rw [updW_ne e, updW_ne e, updW_ne (show a ≠ p from fun e => hab (e ▸ hp))]
      exact h2

def HeadOk (v : VS) (h : Nat) (r : List Nat) : Prop :=
  (v.st h = 5 ∧ v.g h = 0) ∨ v.st h = 9 ∨ v.st h = 7 ∨ (v.st h = 6 ∧ r ≠ []) ∨ (v.st h = 8 ∧ ∃ b r', r = b :: r' ∧ v.x h = idq b ∧ v.st b = 5)
def OutOk (v : VS) (t : Nat) : Prop := v.st t = 0 ∨ (v.st t = 1 ∧ v.g t = 1) ∨ ((v.st t = 2 ∨ v.st t = 3) ∧ v.g t = 1 ∧ v.k t = 0)
def Body (v : VS) : List Nat → Prop
  | [] => v.T = 0
  | h :: r => v.T = idq (lastOf h r) ∧ HeadOk v h r ∧ Chain v h r
structure QI (v : VS) (q : List Nat) : Prop where
  lt : ∀ t, t ∈ q → t < 4
  nd : q.Nodup
  out : ∀ t, t < 4 → t ∉ q → OutOk v t
  body : Body v q

theorem QI.inq {v : VS} {q : List Nat} (h : QI v q) {t : Nat} (hq : t ∈ q) : 4 ≤ v.st t ∧ v.st t ≤ 9 := by
  cases q with
  | nil => exact absurd hq (by simp)
  | cons a r =>
    obtain ⟨_, h2, h3⟩ := h.body
    rcases List.mem_cons.1 hq with rfl | hq
    · rcases h2 with ⟨h, _⟩ | h | h | ⟨h, _⟩ | ⟨h, _⟩ <;> omega
    · rcases (h3.mem t hq).2 with h | h <;> omega
theorem QI.notq {v : VS} {q : List Nat} (h : QI v q) {t : Nat} (hs : v.st t < 4) : t ∉ q := fun hq => by have := (h.inq hq).1; omega
theorem QI.isq {v : VS} {q : List Nat} (h : QI v q) {t : Nat} (ht : t < 4) (hs : 4 ≤ v.st t) : t ∈ q := by
  by_cases hq : t ∈ q
  · exact hq
  · rcases h.out t ht hq with h | ⟨h, _⟩ | ⟨h | h, _⟩ <;> omega
/-- Whose State is past waiting is the first one. -/
theorem QI.first {v : VS} {q : List Nat} (h : QI v q) {t : Nat} (ht : t < 4) (hs : 5 < v.st t) : ∃ r, q = t :: r := by
  have hq := h.isq ht (by omega)
  cases q with
  | nil => exact absurd hq (by simp)
  | cons a r =>
    rcases List.mem_cons.1 hq with rfl | hq
    · exact ⟨r, rfl⟩
    · rcases (h.body.2.2.mem t hq).2 with h | h <;> omega

theorem QI.outside {v v' : VS} {q : List Nat} (h : QI v q) {t : Nat} (hq : t ∉ q) (hT : v'.T = v.T)
    (hf : ∀ j, j ≠ t → v'.st j = v.st j ∧ v'.x j = v.x j ∧ v'.g j = v.g j ∧ v'.k j = v.k j) (ho : OutOk v' t) : QI v' q := by
  have ne : ∀ j, j ∈ q → j ≠ t := fun j hj e => hq (e ▸ hj)
  refine ⟨h.lt, h.nd, fun j hj hjq => ?_, ?_⟩
  · by_cases e : j = t
    · rw [e]; exact ho
    · have := h.out j hj hjq
      obtain ⟨f1, f2, f3, f4⟩ := hf j e
      unfold OutOk
      rw [f1, f3, f4]
      exact this
  · cases q with
    | nil => exact hT.trans h.body
    | cons a r =>
      obtain ⟨h1, h2, h3⟩ := h.body
      obtain ⟨f1, f2, f3, f4⟩ := hf a (ne a (by simp))
      refine ⟨hT.trans h1, ?_, h3.congr (fun j hj => (hf j (ne j hj)).2.2.2) (fun j hj => by obtain ⟨f1, f2, f3, f4⟩ := hf j (ne j (List.mem_cons_of_mem _ hj)); exact ⟨f3, f1, f2⟩)⟩
      unfold HeadOk
      rw [f1, f2, f3]
      rcases h2 with h | h | h | h | ⟨h, b, r', e1, e2, e3⟩
      · exact .inl h
      · exact .inr (.inl h)
      · exact .inr (.inr (.inl h))
      · exact .inr (.inr (.inr (.inl h)))
      · exact .inr (.inr (.inr (.inr ⟨h, b, r', e1, e2, by rw [(hf b (ne b (by simp [e1]))).1]; exact e3⟩)))

theorem QI.enter {v : VS} (h : QI v []) {t : Nat} (ht : t < 4) (hs : v.st t = 3) : QI { v with st := updW v.st t 9, T := idq t } [t] := by
  refine ⟨fun j hj => by simp at hj; omega, by simp, fun j hj hjq => ?_, rfl, .inr (.inl (updW_at _ _ _)), ?_⟩
  · have e : j ≠ t := fun e => hjq (by simp [e])
    have := h.out j hj (by simp)
    unfold OutOk
    simp only [updW_ne e]
    exact this
  · rcases h.out t ht (by simp) with h | ⟨h, _⟩ | ⟨_, _, h⟩
    · omega
    · omega
    · exact h
theorem QI.join {v : VS} {a : Nat} {r : List Nat} (h : QI v (a :: r)) {t : Nat} (ht : t < 4) (hs : v.st t = 3) (hx : v.x t = v.T) : QI { v with st := updW v.st t 4, T := idq t } (a :: (r ++ [t])) := by
  have hq := h.notq (t := t) (by omega)
  have ne : ∀ j, j ∈ a :: r → j ≠ t := fun j hj e => hq (e ▸ hj)
  obtain ⟨h1, h2, h3⟩ := h.body
  have ho : v.g t = 1 ∧ v.k t = 0 := by
    rcases h.out t ht hq with h | ⟨h, _⟩ | ⟨_, h⟩
    · omega
    · omega
    · exact h
  refine ⟨fun j hj => ?_, ?_, fun j hj hjq => ?_, ?_, ?_, ?_⟩
  · rw [← List.cons_append, List.mem_append] at hj
    rcases hj with hj | hj
    · exact h.lt j hj
    · simp at hj; omega
  · rw [← List.cons_append]
    refine List.nodup_append.2 ⟨h.nd, by simp, fun x hx y hy => ?_⟩
    simp at hy
    rw [hy]
    exact ne x hx
  · rw [← List.cons_append, List.mem_append] at hjq
    have e : j ≠ t := fun e => hjq (.inr (by simp [e]))
    have := h.out j hj fun e => hjq (.inl e)
    unfold OutOk
    simp only [updW_ne e]
    exact this
  · rw [lastOf_append]
  · unfold HeadOk
    simp only [updW_ne (ne a (by simp))]
    rcases h2 with h | h | h | h | ⟨h, b, r', e1, e2, e3⟩
    · exact .inl h
    · exact .inr (.inl h)
    · exact .inr (.inr (.inl h))
    · exact .inr (.inr (.inr (.inl ⟨h.1, by simp⟩)))
    · exact .inr (.inr (.inr (.inr ⟨h, b, r' ++ [t], by simp [e1], e2, by rw [updW_ne (ne b (by simp [e1]))]; exact e3⟩)))
  · refine Chain.append (v := { v with st := updW v.st t 4, T := idq t }) ho.1 (updW_at _ _ _) ho.2 (h3.congr (fun _ _ => rfl) (fun j hj => ⟨rfl, updW_ne (ne j (List.mem_cons_of_mem _ hj)), rfl⟩)) ?_
    exact hx.trans h1
theorem QI.tell {v : VS} {a : Nat} {r : List Nat} (h : QI v (a :: r)) {t : Nat} (htr : t ∈ r) (hs : v.st t = 4) :
    ∃ p, p < 4 ∧ v.x t = idq p ∧ QI { v with k := updW v.k p (idq t), st := updW v.st t 5, x := updW v.x t 0 } (a :: r) := by
  obtain ⟨h1, h2, h3⟩ := h.body
  obtain ⟨p, hp, hpt, hx, hc⟩ := h3.tell hs h.nd htr
  have hta : a ≠ t := fun e => (List.nodup_cons.1 h.nd).1 (e ▸ htr)
  refine ⟨p, h.lt p hp, hx, h.lt, h.nd, fun j hj hjq => ?_, h1, ?_, hc⟩
  · have e1 : j ≠ t := fun e => hjq (e ▸ List.mem_cons_of_mem _ htr)
    have e2 : j ≠ p := fun e => hjq (e ▸ hp)
    have := h.out j hj hjq
    unfold OutOk
    simp only [updW_ne e1, updW_ne e2]
    exact this
  · unfold HeadOk
    simp only [updW_ne hta]
    rcases h2 with h | h | h | h | ⟨h, b, r', e1, e2, e3⟩
    · exact .inl h
    · exact .inr (.inl h)
    · exact .inr (.inr (.inl h))
    · exact .inr (.inr (.inr (.inl h)))
    · refine .inr (.inr (.inr (.inr ⟨h, b, r', e1, e2, ?_⟩)))
      by_cases e : b = t
      · rw [e, updW_at]
      · rw [updW_ne e]; exact e3
/-- The first one's State turns (and its Word). -/
theorem QI.head {v : VS} {a : Nat} {r : List Nat} (h : QI v (a :: r)) {s' x' : Int} (hh : HeadOk { v with st := updW v.st a s', x := updW v.x a x' } a r) : QI { v with st := updW v.st a s', x := updW v.x a x' } (a :: r) := by
  obtain ⟨h1, h2, h3⟩ := h.body
  have har : ∀ j, j ∈ r → j ≠ a := fun j hj e => (List.nodup_cons.1 h.nd).1 (e ▸ hj)
  refine ⟨h.lt, h.nd, fun j hj hjq => ?_, h1, hh, h3.congr (fun _ _ => rfl) (fun j hj => ⟨rfl, updW_ne (har j hj), updW_ne (har j hj)⟩)⟩
  have e : j ≠ a := fun e => hjq (by simp [e])
  have := h.out j hj hjq
  unfold OutOk
  simp only [updW_ne e]
  exact this
/-- What the first one finds in its link. -/
theorem QI.link {v : VS} {a : Nat} {r : List Nat} (h : QI v (a :: r)) : (v.k a = 0 ∧ (r = [] ∨ ∃ b r', r = b :: r' ∧ v.st b = 4)) ∨ ∃ b r', r = b :: r' ∧ v.k a = idq b ∧ v.st b = 5 := by
  obtain ⟨h1, h2, h3⟩ := h.body
  cases r with
  | nil => exact .inl ⟨h3, .inl rfl⟩
  | cons b r =>
    rcases h3.2.1 with ⟨e1, e2, e3⟩ | ⟨e1, e2⟩
    · exact .inl ⟨e3, .inr ⟨b, r, rfl, e1⟩⟩
    · exact .inr ⟨b, r, rfl, e2, e1⟩
theorem QI.tailIs {v : VS} {a : Nat} {r : List Nat} (h : QI v (a :: r)) : v.T = idq a ↔ r = [] := by
  obtain ⟨h1, _, _⟩ := h.body
  constructor
  · intro e
    cases r with
    | nil => rfl
    | cons b r =>
      have := idq_inj (h1.symm.trans e)
      have hm : lastOf a (b :: r) ∈ b :: r := lastOf_mem b r
      rw [this] at hm
      exact absurd hm (List.nodup_cons.1 h.nd).1
  · rintro rfl; exact h1
theorem QI.leave {v : VS} {a : Nat} (h : QI v [a]) (x' : Int) : QI { v with st := updW v.st a 0, x := updW v.x a x', T := 0 } [] := by
  refine ⟨fun j hj => absurd hj (by simp), by simp, fun j hj _ => ?_, rfl⟩
  by_cases e : j = a
  · subst e; exact .inl (updW_at _ _ _)
  · have := h.out j hj (by simp [e])
    unfold OutOk
    simp only [updW_ne e]
    exact this
theorem QI.pass {v : VS} {a b : Nat} {r : List Nat} (h : QI v (a :: b :: r)) (hb : v.st b = 5) (x' : Int) : QI { v with st := updW v.st a 0, x := updW v.x a x', g := updW v.g b 0 } (b :: r) := by
  obtain ⟨h1, h2, h3⟩ := h.body
  have hn := List.nodup_cons.1 h.nd
  have hn2 := List.nodup_cons.1 hn.2
  have hba : b ≠ a := fun e => hn.1 (by simp [e])
  refine ⟨fun j hj => h.lt j (List.mem_cons_of_mem _ hj), hn.2, fun j hj hjq => ?_, h1, .inl ⟨by simp only [updW_ne hba]; exact hb, updW_at _ _ _⟩, h3.2.2.congr (fun _ _ => rfl) (fun j hj => ⟨updW_ne fun e => hn2.1 (e ▸ hj), updW_ne fun e => hn.1 (e ▸ List.mem_cons_of_mem _ hj), updW_ne fun e => hn.1 (e ▸ List.mem_cons_of_mem _ hj)⟩)⟩
  by_cases e : j = a
  · subst e; exact .inl (updW_at _ _ _)
  · have e2 : j ≠ b := fun e => hjq (by simp [e])
    have := h.out j hj fun hm => by rcases List.mem_cons.1 hm with h | h; exact e h; exact hjq h
    unfold OutOk
    simp only [updW_ne e, updW_ne e2]
    exact this

end Go.Proofs.Ytmcmajndcbobpaa
