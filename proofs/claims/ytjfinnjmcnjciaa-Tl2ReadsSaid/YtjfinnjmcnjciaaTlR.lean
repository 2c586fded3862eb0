/-
  WHAT AN ATTEMPT HAS READ STOOD THERE TOGETHER: stripes with versions, plainly; no program.   H n is what there was at version n; Hc what there is, what is decided counted as written. AN ATTEMPT WITH STRIPES, in plain words: what is asked, and its steps, one access each (the document's 15.1 to 15.3; not Extend). Attempts on three stripes, four words: where things stand; words behind an access. Attempts by their plans, pick by pick: how each stands to what stripes keep together.
-/
import Derived.Test.YtjfinnjmcnjciaaBase
import Derived.Test.YtjfinnjmcnjciaaWrP
import Derived.Test.YtjfinnjmcnjciaaStRw
import Derived.Test.YtjfinnjmcnjciaaBmp
namespace Go.Proofs.Ytjfinnjmcnjciaa

/-- An attempt, as far as stripes see it. -/
structure AT where
  live : Bool
  S : Int
  R : List (Nat × Int)
  mid : Option (Nat × Int)
  got : Option Int
  held : Nat → Bool
  q : Option Int
  M : Option Int
  dec : Bool
  pend : List (Nat × Int)
structure AS where
  c : Int
  ver : Nat → Int
  d : Nat → Int
  T : Nat → AT
def fset {α : Type} (f : Nat → α) (k : Nat) (x : α) : Nat → α := fun j => if j = k then x else f j
theorem fset_at {α : Type} (f : Nat → α) (k : Nat) (x : α) : fset f k x k = x := if_pos rfl
theorem fset_ne {α : Type} (f : Nat → α) {k j : Nat} (x : α) (h : j ≠ k) : fset f k x j = f j := if_neg h
/-- A list of writes laid over what there is. -/
def appW (W : List (Nat × Int)) (h : Nat → Int) (p : Nat) : Int := match W.find? (fun e => e.1 == p) with | some e => e.2 | none => h p
theorem appW_not {W : List (Nat × Int)} {h : Nat → Int} {p : Nat} (hn : ∀ v, (p, v) ∉ W) : appW W h p = h p := by
  have : W.find? (fun e => e.1 == p) = none := by
    rw [List.find?_eq_none]
    intro e he hx
    have : e.1 = p := by simpa using hx
    exact hn e.2 (by rw [← this]; exact he)
  unfold appW
  rw [this]
theorem appW_congr {W : List (Nat × Int)} {h h' : Nat → Int} {p : Nat} (e : h p = h' p) : appW W h p = appW W h' p := by
  unfold appW
  split
  · rfl
  · exact e
/-- Each place but once. -/
def Sole (W : List (Nat × Int)) : Prop := ∀ p v v', (p, v) ∈ W → (p, v') ∈ W → v = v'
theorem appW_in {W : List (Nat × Int)} {h : Nat → Int} {p : Nat} {v : Int} (hs : Sole W) (hm : (p, v) ∈ W) : appW W h p = v := by
  unfold appW
  cases hf : W.find? (fun e => e.1 == p) with
  | none =>
    rw [List.find?_eq_none] at hf
    exact absurd (by simp) (hf _ hm)
  | some e =>
    have h1 := List.mem_of_find?_eq_some hf
    have h2 := List.find?_some hf
    have h3 : e.1 = p := by simpa using h2
    exact hs p e.2 v (by rw [← h3]; exact h1) hm

/-- What holds between any two accesses. -/
structure AInv (σ : Nat → Nat) (Good : (Nat → Int) → Prop) (H : Int → Nat → Int) (Hc : Nat → Int) (A : AS) : Prop where
  good : ∀ n, Good (H n)
  hc : ∀ n p, A.c ≤ n → H n p = Hc p
  one : ∀ t u s, (A.T t).held s = true → (A.T u).held s = true → t = u
  verc : ∀ s, A.ver s ≤ A.c
  stamp : ∀ t, (A.T t).live = true → (A.T t).S ≤ A.c
  free : ∀ p, (∀ t, (A.T t).dec = true → (A.T t).held (σ p) = false) → A.d p = Hc p ∧ ∀ n, A.ver (σ p) ≤ n → H n p = Hc p
  decd : ∀ t p m, (A.T t).dec = true → (A.T t).held (σ p) = true → (A.T t).M = some m → (∀ n, m ≤ n → H n p = Hc p) ∧ (∀ v, (p, v) ∈ (A.T t).pend → Hc p = v) ∧ ((∀ v, (p, v) ∉ (A.T t).pend) → A.d p = Hc p)
  decm : ∀ t, (A.T t).dec = true → ∃ m, (A.T t).M = some m
  pend : ∀ t p v, (p, v) ∈ (A.T t).pend → (A.T t).dec = true ∧ (A.T t).held (σ p) = true
  made : ∀ t m, (A.T t).M = some m → m ≤ A.c ∧ (∀ s, (A.T t).held s = true → A.ver s < m) ∧ ∃ k, (A.T t).q = some k ∧ k ≤ m
  near : ∀ t k, (A.T t).q = some k → (∀ s, (A.T t).held s = true → A.ver s < k) ∧
    ∀ u, u ≠ t → (A.T u).live = true → k ≤ (A.T u).S → ∀ p v, (p, v) ∈ (A.T u).R → (A.T t).held (σ p) = false
  rd : ∀ u, (A.T u).live = true → ∀ p v, (p, v) ∈ (A.T u).R → v = H (A.T u).S p
  mid : ∀ u p pv, (A.T u).live = true → (A.T u).mid = some (p, pv) → pv ≤ A.ver (σ p) ∧ pv ≤ (A.T u).S ∧
    ∀ g, (A.T u).got = some g → (∀ t, (A.T t).dec = true → (A.T t).held (σ p) = false) → A.ver (σ p) = pv → g = Hc p
  dl : ∀ t, (A.T t).dec = true → (A.T t).live = false

def idleT : AT := ⟨false, 0, [], none, none, fun _ => false, none, none, false, []⟩
def AS.upd (A : AS) (t : Nat) (x : AT) : AS := { A with T := fset A.T t x }

section
variable {σ : Nat → Nat} {Good : (Nat → Int) → Prop} {H : Int → Nat → Int} {Hc : Nat → Int} {A : AS}

theorem AS.upd_at (A : AS) (t : Nat) (x : AT) : (A.upd t x).T t = x := fset_at _ _ _
theorem AS.upd_ne (A : AS) {t j : Nat} (x : AT) (h : j ≠ t) : (A.upd t x).T j = A.T j := fset_ne _ _ h
/-- One attempt turns; the words don't. -/
theorem AInv.turn (h : AInv σ Good H Hc A) (t : Nat) (x : AT)
    (c1 : ∀ u s, u ≠ t → x.held s = true → (A.T u).held s = false)
    (c2 : x.live = true → x.S ≤ A.c)
    (c3 : ∀ p, (x.dec = true → x.held (σ p) = false) → (A.T t).dec = true → (A.T t).held (σ p) = false)
    (c4 : ∀ p m, x.dec = true → x.held (σ p) = true → x.M = some m → (∀ n, m ≤ n → H n p = Hc p) ∧ (∀ v, (p, v) ∈ x.pend → Hc p = v) ∧ ((∀ v, (p, v) ∉ x.pend) → A.d p = Hc p))
    (c5 : x.dec = true → ∃ m, x.M = some m)
    (c6 : ∀ p v, (p, v) ∈ x.pend → x.dec = true ∧ x.held (σ p) = true)
    (c7 : ∀ m, x.M = some m → m ≤ A.c ∧ (∀ s, x.held s = true → A.ver s < m) ∧ ∃ k, x.q = some k ∧ k ≤ m)
    (c8 : ∀ k, x.q = some k → (∀ s, x.held s = true → A.ver s < k) ∧ ∀ u, u ≠ t → (A.T u).live = true → k ≤ (A.T u).S → ∀ p v, (p, v) ∈ (A.T u).R → x.held (σ p) = false)
    (c9 : ∀ a k, a ≠ t → (A.T a).q = some k → x.live = true → k ≤ x.S → ∀ p v, (p, v) ∈ x.R → (A.T a).held (σ p) = false)
    (c10 : x.live = true → ∀ p v, (p, v) ∈ x.R → v = H x.S p)
    (c11 : ∀ p pv, x.live = true → x.mid = some (p, pv) → pv ≤ A.ver (σ p) ∧ pv ≤ x.S ∧ ∀ g, x.got = some g → (∀ u, u ≠ t → (A.T u).dec = true → (A.T u).held (σ p) = false) → A.ver (σ p) = pv → g = Hc p)
    (c12 : x.dec = true → x.live = false) : AInv σ Good H Hc (A.upd t x) := by
  have e : ∀ j, j ≠ t → (A.upd t x).T j = A.T j := fun j hj => A.upd_ne x hj
  have e0 : (A.upd t x).T t = x := A.upd_at t x
  have fr : ∀ p, (∀ a, ((A.upd t x).T a).dec = true → ((A.upd t x).T a).held (σ p) = false) → ∀ a, (A.T a).dec = true → (A.T a).held (σ p) = false := fun p hp a ha => by
    by_cases ea : a = t
    · subst ea
      have := hp a
      rw [e0] at this
      exact c3 p this ha
    · have := hp a
      rw [e a ea] at this
      exact this ha
  constructor
  · exact h.good
  · exact h.hc
  · intro a b s ha hb
    by_cases ea : a = t
    · by_cases eb : b = t
      · rw [ea, eb]
      · subst ea
        rw [e0] at ha
        rw [e b eb, c1 b s eb ha] at hb
        cases hb
    · by_cases eb : b = t
      · subst eb
        rw [e0] at hb
        rw [e a ea, c1 a s ea hb] at ha
        cases ha
      · rw [e a ea] at ha; rw [e b eb] at hb; exact h.one a b s ha hb
  · exact h.verc
  · intro a ha
    by_cases ea : a = t
    · subst ea; rw [e0] at ha ⊢; exact c2 ha
    · rw [e a ea] at ha ⊢; exact h.stamp a ha
  · intro p hp
    exact h.free p (fr p hp)
  · intro a p m ha
    by_cases ea : a = t
    · subst ea; rw [e0] at ha ⊢; exact c4 p m ha
    · rw [e a ea] at ha ⊢; exact h.decd a p m ha
  · intro a ha
    by_cases ea : a = t
    · subst ea; rw [e0] at ha ⊢; exact c5 ha
    · rw [e a ea] at ha ⊢; exact h.decm a ha
  · intro a p v ha
    by_cases ea : a = t
    · subst ea; rw [e0] at ha ⊢; exact c6 p v ha
    · rw [e a ea] at ha ⊢; exact h.pend a p v ha
  · intro a m ha
    by_cases ea : a = t
    · subst ea; rw [e0] at ha ⊢; exact c7 m ha
    · rw [e a ea] at ha ⊢; exact h.made a m ha
  · intro a k ha
    by_cases ea : a = t
    · subst ea
      rw [e0] at ha ⊢
      refine ⟨(c8 k ha).1, fun u hu hl hk p v hp => ?_⟩
      rw [e u hu] at hl hk hp
      exact (c8 k ha).2 u hu hl hk p v hp
    · rw [e a ea] at ha ⊢
      refine ⟨(h.near a k ha).1, fun u hu hl hk p v hp => ?_⟩
      by_cases eu : u = t
      · subst eu; rw [e0] at hl hk hp; exact c9 a k ea ha hl hk p v hp
      · rw [e u eu] at hl hk hp; exact (h.near a k ha).2 u hu hl hk p v hp
  · intro u hl p v hp
    by_cases eu : u = t
    · subst eu; rw [e0] at hl hp ⊢; exact c10 hl p v hp
    · rw [e u eu] at hl hp ⊢; exact h.rd u hl p v hp
  · intro u p pv hl hm
    by_cases eu : u = t
    · subst eu
      rw [e0] at hl hm ⊢
      obtain ⟨h1, h2, h3⟩ := c11 p pv hl hm
      exact ⟨h1, h2, fun g hg hf => h3 g hg fun a ea ha => by have := hf a; rw [e a ea] at this; exact this ha⟩
    · rw [e u eu] at hl hm ⊢
      obtain ⟨h1, h2, h3⟩ := h.mid u p pv hl hm
      exact ⟨h1, h2, fun g hg hf => h3 g hg (fr p hf)⟩
  · intro a ha
    by_cases ea : a = t
    · subst ea; rw [e0] at ha ⊢; exact c12 ha
    · rw [e a ea] at ha ⊢; exact h.dl a ha

theorem AInv.alone (h : AInv σ Good H Hc A) {t u : Nat} {s : Nat} (ht : (A.T t).held s = true) (hu : u ≠ t) : (A.T u).held s = false := by
  cases hx : (A.T u).held s with
  | false => rfl
  | true => exact absurd (h.one u t s hx ht) hu
theorem AInv.nopend (h : AInv σ Good H Hc A) {t : Nat} (hd : (A.T t).dec = false) (p : Nat) (v : Int) : (p, v) ∉ (A.T t).pend := fun hp => by
  rw [(h.pend t p v hp).1] at hd; cases hd

/-- An attempt that holds nothing, and is not decided, begins. -/
theorem AInv.begin (h : AInv σ Good H Hc A) (t : Nat) (hh : ∀ s, (A.T t).held s = false) : AInv σ Good H Hc (A.upd t { idleT with live := true, S := A.c }) :=
  h.turn t _ (fun _ _ _ hx => by cases hx) (fun _ => Int.le_refl _) (fun p _ _ => hh _) (fun _ _ hx => by cases hx) (fun hx => by cases hx) (fun _ _ hx => by cases hx) (fun _ hx => by cases hx) (fun _ hx => by cases hx)
    (fun _ _ _ _ _ _ _ _ hx => by cases hx) (fun _ _ _ hx => by cases hx) (fun _ _ _ hx => by cases hx) (fun hx => by cases hx)
/-- It ends, and holds nothing. -/
theorem AInv.idle (h : AInv σ Good H Hc A) (t : Nat) (hh : ∀ s, (A.T t).held s = false) : AInv σ Good H Hc (A.upd t idleT) :=
  h.turn t _ (fun _ _ _ hx => by cases hx) (fun hx => by cases hx) (fun p _ _ => hh _) (fun _ _ hx => by cases hx) (fun hx => by cases hx) (fun _ _ hx => by cases hx) (fun _ hx => by cases hx) (fun _ hx => by cases hx)
    (fun _ _ _ _ _ _ _ _ hx => by cases hx) (fun hx => by cases hx) (fun _ _ hx => by cases hx) (fun hx => by cases hx)
/-- Reading, the stripe ahead. -/
theorem AInv.rdA (h : AInv σ Good H Hc A) (t p : Nat) (hl : (A.T t).live = true) (hv : A.ver (σ p) ≤ (A.T t).S) : AInv σ Good H Hc (A.upd t { A.T t with mid := some (p, A.ver (σ p)), got := none }) :=
  h.turn t _ (fun u s hu hx => h.alone hx hu) (h.stamp t) (fun p hp hd => hp hd) (h.decd t) (h.decm t) (h.pend t) (h.made t) (h.near t)
    (fun a k ha hq hl hk p v hp => (h.near a k hq).2 t (Ne.symm ha) hl hk p v hp) (h.rd t)
    (fun p' pv _ hm => by
      simp only [Option.some.injEq, Prod.mk.injEq] at hm
      obtain ⟨rfl, rfl⟩ := hm
      exact ⟨Int.le_refl _, hv, fun g hg => by cases hg⟩) (h.dl t)
/-- Reading, the word. -/
theorem AInv.rdB (h : AInv σ Good H Hc A) (t p : Nat) (pv : Int) (hl : (A.T t).live = true) (hm : (A.T t).mid = some (p, pv)) : AInv σ Good H Hc (A.upd t { A.T t with got := some (A.d p) }) :=
  h.turn t _ (fun u s hu hx => h.alone hx hu) (h.stamp t) (fun p hp hd => hp hd) (h.decd t) (h.decm t) (h.pend t) (h.made t) (h.near t)
    (fun a k ha hq hl hk p v hp => (h.near a k hq).2 t (Ne.symm ha) hl hk p v hp) (h.rd t)
    (fun p' pv' _ hm' => by
      have hm' : (A.T t).mid = some (p', pv') := hm'
      rw [hm] at hm'
      simp only [Option.some.injEq, Prod.mk.injEq] at hm'
      obtain ⟨rfl, rfl⟩ := hm'
      obtain ⟨h1, h2, _⟩ := h.mid t p pv hl hm
      refine ⟨h1, h2, fun g hg hf _ => ?_⟩
      have hg : A.d p = g := by simpa using hg
      rw [← hg]
      refine (h.free p fun a ha => ?_).1
      by_cases ea : a = t
      · subst ea; have := h.dl a ha; rw [hl] at this; cases this
      · exact hf a ea ha) (h.dl t)
/-- Reading, the stripe again: nobody holds it, and it is as it was. -/
theorem AInv.rdC (h : AInv σ Good H Hc A) (t p : Nat) (g : Int) (hl : (A.T t).live = true) (hm : (A.T t).mid = some (p, A.ver (σ p))) (hg : (A.T t).got = some g) (hn : ∀ u, (A.T u).held (σ p) = false) :
    AInv σ Good H Hc (A.upd t { A.T t with R := (A.T t).R ++ [(p, g)], mid := none, got := none }) ∧ g = H (A.T t).S p := by
  obtain ⟨h1, h2, h3⟩ := h.mid t p _ hl hm
  have hf := h.free p fun a _ => hn a
  have hgv : g = H (A.T t).S p := by rw [hf.2 _ h2]; exact h3 g hg (fun a _ => hn a) rfl
  refine ⟨h.turn t _ (fun u s hu hx => h.alone hx hu) (h.stamp t) (fun p hp hd => hp hd) (h.decd t) (h.decm t) (h.pend t) (h.made t) (h.near t)
    (fun a k ha hq hl hk p' v hp => ?_) (fun hl p' v hp => ?_) (fun p' pv' _ hm' => by cases hm') (h.dl t), hgv⟩
  · rcases List.mem_append.1 hp with hp | hp
    · exact (h.near a k hq).2 t (Ne.symm ha) hl hk p' v hp
    · simp at hp; rw [hp.1]; exact hn a
  · rcases List.mem_append.1 hp with hp | hp
    · exact h.rd t hl p' v hp
    · simp at hp; rw [hp.1, hp.2]; exact hgv
/-- A stripe is taken. -/
theorem AInv.lock (h : AInv σ Good H Hc A) (t s : Nat) (hd : (A.T t).dec = false) (hq : (A.T t).q = none) (hn : ∀ u, (A.T u).held s = false) :
    AInv σ Good H Hc (A.upd t { A.T t with held := fset (A.T t).held s true }) := by
  refine h.turn t _ (fun u s' hu hx => ?_) (h.stamp t) (fun p _ hd' => by rw [hd] at hd'; cases hd') (fun p m hd' => by have hd' : (A.T t).dec = true := hd'; rw [hd] at hd'; cases hd') (h.decm t) (fun p v hp => absurd hp (h.nopend hd p v)) (fun m hm => ?_) (fun k hk => ?_)
    (fun a k ha hq hl hk p v hp => (h.near a k hq).2 t (Ne.symm ha) hl hk p v hp) (h.rd t) (fun p pv hl hm => ?_) (h.dl t)
  · by_cases e : s' = s
    · subst e; exact hn u
    · have hx : fset (A.T t).held s true s' = true := hx
      rw [fset_ne _ _ e] at hx; exact h.alone hx hu
  · obtain ⟨_, _, k, hk, _⟩ := h.made t m hm; rw [hq] at hk; cases hk
  · have hk : (A.T t).q = some k := hk
    rw [hq] at hk; cases hk
  · obtain ⟨h1, h2, h3⟩ := h.mid t p pv hl hm
    refine ⟨h1, h2, fun g hg hf => h3 g hg fun a ha => ?_⟩
    by_cases ea : a = t
    · subst ea; rw [hd] at ha; cases ha
    · exact hf a ea ha
/-- All is taken; the clock is looked at. -/
theorem AInv.see (h : AInv σ Good H Hc A) (t : Nat) (hd : (A.T t).dec = false) (hM : (A.T t).M = none) : AInv σ Good H Hc (A.upd t { A.T t with q := some (A.c + 1) }) := by
  refine h.turn t _ (fun u s hu hx => h.alone hx hu) (h.stamp t) (fun p hp hd => hp hd) (h.decd t) (h.decm t) (h.pend t) (fun m hm => ?_) (fun k hk => ?_)
    (fun a k ha hq hl hk p v hp => (h.near a k hq).2 t (Ne.symm ha) hl hk p v hp) (h.rd t) (fun p pv hl hm => ?_) (h.dl t)
  · have hm : (A.T t).M = some m := hm
    rw [hM] at hm; cases hm
  · simp only [Option.some.injEq] at hk
    subst hk
    exact ⟨fun s _ => by have := h.verc s; omega, fun u hu hl hk => by have := h.stamp u hl; omega⟩
  · obtain ⟨h1, h2, h3⟩ := h.mid t p pv hl hm
    refine ⟨h1, h2, fun g hg hf => h3 g hg fun a ha => ?_⟩
    by_cases ea : a = t
    · subst ea; rw [hd] at ha; cases ha
    · exact hf a ea ha
/-- The clock has gone on meanwhile: what it is now is taken. -/
theorem AInv.adopt (h : AInv σ Good H Hc A) (t : Nat) (k : Int) (hd : (A.T t).dec = false) (hq : (A.T t).q = some k) (hk : k ≤ A.c) : AInv σ Good H Hc (A.upd t { A.T t with M := some A.c }) := by
  refine h.turn t _ (fun u s hu hx => h.alone hx hu) (h.stamp t) (fun p hp hd => hp hd) (fun p m hd' => by have hd' : (A.T t).dec = true := hd'; rw [hd] at hd'; cases hd') (fun hd' => ⟨_, rfl⟩) (h.pend t) (fun m hm => ?_) (h.near t)
    (fun a k ha hq hl hk p v hp => (h.near a k hq).2 t (Ne.symm ha) hl hk p v hp) (h.rd t) (fun p pv hl hm => ?_) (h.dl t)
  · simp only [Option.some.injEq] at hm
    subst hm
    exact ⟨Int.le_refl _, fun s hs => Int.lt_of_lt_of_le ((h.near t k hq).1 s hs) hk, k, hq, hk⟩
  · obtain ⟨h1, h2, h3⟩ := h.mid t p pv hl hm
    refine ⟨h1, h2, fun g hg hf => h3 g hg fun a ha => ?_⟩
    by_cases ea : a = t
    · subst ea; rw [hd] at ha; cases ha
    · exact hf a ea ha
/-- It is aborted: what it holds is to be given back. -/
theorem AInv.abort (h : AInv σ Good H Hc A) (t : Nat) (hd : (A.T t).dec = false) : AInv σ Good H Hc (A.upd t { idleT with held := (A.T t).held }) :=
  h.turn t _ (fun u s hu hx => h.alone hx hu) (fun hx => by cases hx) (fun p _ hd' => by rw [hd] at hd'; cases hd') (fun _ _ hx => by cases hx) (fun hx => by cases hx) (fun _ _ hx => by cases hx) (fun _ hx => by cases hx) (fun _ hx => by cases hx)
    (fun _ _ _ _ hx => by cases hx) (fun hx => by cases hx) (fun _ _ hx => by cases hx) (fun hx => by cases hx)
/-- A stripe is given back as it was. -/
theorem AInv.undo (h : AInv σ Good H Hc A) (t s : Nat) (hd : (A.T t).dec = false) : AInv σ Good H Hc (A.upd t { idleT with held := fset (A.T t).held s false }) :=
  h.turn t _ (fun u s' hu hx => by
      by_cases e : s' = s
      · subst e; have hx : fset (A.T t).held s' false s' = true := hx; rw [fset_at] at hx; cases hx
      · have hx : fset (A.T t).held s false s' = true := hx; rw [fset_ne _ _ e] at hx; exact h.alone hx hu)
    (fun hx => by cases hx) (fun p _ hd' => by rw [hd] at hd'; cases hd') (fun _ _ hx => by cases hx) (fun hx => by cases hx) (fun _ _ hx => by cases hx) (fun _ hx => by cases hx) (fun _ hx => by cases hx)
    (fun _ _ _ _ hx => by cases hx) (fun hx => by cases hx) (fun _ _ hx => by cases hx) (fun hx => by cases hx)

/-- The clock goes on by one, for whomever. -/
theorem AInv.tick (h : AInv σ Good H Hc A) : AInv σ Good H Hc { A with c := A.c + 1 } :=
  ⟨h.good, fun n p hn => h.hc n p (by have hn : A.c + 1 ≤ n := hn; omega), h.one, fun s => by have := h.verc s; show A.ver s ≤ A.c + 1; omega, fun t ht => by have := h.stamp t ht; show (A.T t).S ≤ A.c + 1; omega,
    h.free, h.decd, h.decm, h.pend, fun t m hm => by obtain ⟨h1, h2⟩ := h.made t m hm; exact ⟨by show m ≤ A.c + 1; omega, h2⟩, h.near, h.rd, h.mid, h.dl⟩
/-- The clock goes on by one, and that is what was made. -/
theorem AInv.bump (h : AInv σ Good H Hc A) (t : Nat) (hd : (A.T t).dec = false) : AInv σ Good H Hc (({ A with c := A.c + 1 } : AS).upd t { A.T t with q := some (A.c + 1), M := some (A.c + 1) }) := by
  have h' := h.tick
  refine h'.turn t _ (fun u s hu hx => h.alone hx hu) (h'.stamp t) (fun p hp hd => hp hd) (fun p m hd' => by have hd' : (A.T t).dec = true := hd'; rw [hd] at hd'; cases hd') (fun _ => ⟨_, rfl⟩) (h.pend t) (fun m hm => ?_) (fun k hk => ?_)
    (fun a k ha hq hl hk p v hp => (h.near a k hq).2 t (Ne.symm ha) hl hk p v hp) (h.rd t) (fun p pv hl hm => ?_) (h.dl t)
  · simp only [Option.some.injEq] at hm
    subst hm
    exact ⟨Int.le_refl _, fun s _ => by have := h.verc s; show A.ver s < A.c + 1; omega, _, rfl, Int.le_refl _⟩
  · simp only [Option.some.injEq] at hk
    subst hk
    exact ⟨fun s _ => by have := h.verc s; show A.ver s < A.c + 1; omega, fun u hu hl hk => by have hk : A.c + 1 ≤ (A.T u).S := hk; have := h.stamp u hl; omega⟩
  · obtain ⟨h1, h2, h3⟩ := h.mid t p pv hl hm
    refine ⟨h1, h2, fun g hg hf => h3 g hg fun a ha => ?_⟩
    by_cases ea : a = t
    · subst ea; rw [hd] at ha; cases ha
    · exact hf a ea ha

/-- It is decided: what it writes is what there is, from what was made on. -/
theorem AInv.decide (h : AInv σ Good H Hc A) (t : Nat) (m : Int) (W : List (Nat × Int)) (hl : (A.T t).live = true) (hM : (A.T t).M = some m) (hW : ∀ p v, (p, v) ∈ W → (A.T t).held (σ p) = true) (hs : Sole W)
    (hR : ∀ p v, (p, v) ∈ (A.T t).R → (A.T t).held (σ p) = true ∧ A.ver (σ p) ≤ (A.T t).S) (hG : ∀ f : Nat → Int, Good f → (∀ p v, (p, v) ∈ (A.T t).R → f p = v) → Good (appW W f)) :
    AInv σ Good (fun n => if m ≤ n then appW W (H n) else H n) (appW W Hc) (A.upd t { A.T t with live := false, dec := true, pend := W, mid := none, got := none }) := by
  have hd : (A.T t).dec = false := by
    cases hx : (A.T t).dec with
    | false => rfl
    | true => have := h.dl t hx; rw [hl] at this; cases this
  obtain ⟨hmc, hmv, k, hq, hkm⟩ := h.made t m hM
  have e : ∀ j, j ≠ t → (A.upd t { A.T t with live := false, dec := true, pend := W, mid := none, got := none }).T j = A.T j := fun j hj => A.upd_ne _ hj
  have e0 : (A.upd t { A.T t with live := false, dec := true, pend := W, mid := none, got := none }).T t = { A.T t with live := false, dec := true, pend := W, mid := none, got := none } := A.upd_at t _
  have eh : ∀ j s, ((A.upd t { A.T t with live := false, dec := true, pend := W, mid := none, got := none }).T j).held s = (A.T j).held s := fun j s => by
    by_cases ej : j = t
    · subst ej; rw [e0]
    · rw [e j ej]
  have hnot : ∀ p, (A.T t).held (σ p) = false → ∀ v, (p, v) ∉ W := fun p hp v hv => by rw [hW p v hv] at hp; cases hp
  have hfr : ∀ p, (A.T t).held (σ p) = true → A.d p = Hc p ∧ ∀ n, A.ver (σ p) ≤ n → H n p = Hc p := fun p hp => h.free p fun a ha => by
    by_cases ea : a = t
    · subst ea; rw [hd] at ha; cases ha
    · exact h.alone hp ea
  have hun : ∀ p, (∀ a, ((A.upd t { A.T t with live := false, dec := true, pend := W, mid := none, got := none }).T a).dec = true → ((A.upd t { A.T t with live := false, dec := true, pend := W, mid := none, got := none }).T a).held (σ p) = false) →
      (A.T t).held (σ p) = false ∧ ∀ a, (A.T a).dec = true → (A.T a).held (σ p) = false := fun p hp => by
    have h1 : (A.T t).held (σ p) = false := by have := hp t; rw [e0] at this; exact this rfl
    refine ⟨h1, fun a ha => ?_⟩
    by_cases ea : a = t
    · subst ea; exact h1
    · have := hp a; rw [e a ea] at this; exact this ha
  constructor
  · intro n
    show Good (if m ≤ n then appW W (H n) else H n)
    by_cases hn : m ≤ n
    · rw [if_pos hn]
      refine hG _ (h.good n) fun p v hp => ?_
      obtain ⟨r1, r2⟩ := hR p v hp
      have hf := (hfr p r1).2
      rw [hf n (by have := hmv _ r1; omega), ← hf _ r2]
      exact (h.rd t hl p v hp).symm
    · rw [if_neg hn]; exact h.good n
  · intro n p hn
    have hn : A.c ≤ n := hn
    show (if m ≤ n then appW W (H n) else H n) p = appW W Hc p
    rw [if_pos (by omega)]
    exact appW_congr (h.hc n p hn)
  · intro a b s ha hb
    rw [eh] at ha hb
    exact h.one a b s ha hb
  · exact h.verc
  · intro a ha
    by_cases ea : a = t
    · subst ea; rw [e0] at ha; cases ha
    · rw [e a ea] at ha ⊢; exact h.stamp a ha
  · intro p hp
    obtain ⟨h1, h2⟩ := hun p hp
    obtain ⟨f1, f2⟩ := h.free p h2
    rw [appW_not (hnot p h1)]
    refine ⟨f1, fun n hn => ?_⟩
    show (if m ≤ n then appW W (H n) else H n) p = Hc p
    by_cases hm : m ≤ n
    · rw [if_pos hm, appW_not (hnot p h1)]; exact f2 n hn
    · rw [if_neg hm]; exact f2 n hn
  · intro a p m' ha hh hM'
    by_cases ea : a = t
    · subst ea
      rw [e0] at ha hh hM' ⊢
      have hh : (A.T a).held (σ p) = true := hh
      have hM' : (A.T a).M = some m' := hM'
      rw [hM] at hM'
      simp only [Option.some.injEq] at hM'
      subst hM'
      obtain ⟨f1, f2⟩ := hfr p hh
      refine ⟨fun n hn => ?_, fun v hv => appW_in hs hv, fun hv => ?_⟩
      · show (if m ≤ n then appW W (H n) else H n) p = appW W Hc p
        rw [if_pos hn]
        exact appW_congr (f2 n (by have := hmv _ hh; omega))
      · rw [appW_not hv]; exact f1
    · rw [e a ea] at ha hh hM' ⊢
      have h1 : (A.T t).held (σ p) = false := h.alone hh (Ne.symm ea)
      obtain ⟨d1, d2, d3⟩ := h.decd a p m' ha hh hM'
      rw [appW_not (hnot p h1)]
      refine ⟨fun n hn => ?_, d2, d3⟩
      show (if m ≤ n then appW W (H n) else H n) p = Hc p
      by_cases hm : m ≤ n
      · rw [if_pos hm, appW_not (hnot p h1)]; exact d1 n hn
      · rw [if_neg hm]; exact d1 n hn
  · intro a ha
    by_cases ea : a = t
    · subst ea; rw [e0]; exact ⟨m, hM⟩
    · rw [e a ea] at ha ⊢; exact h.decm a ha
  · intro a p v ha
    by_cases ea : a = t
    · subst ea; rw [e0] at ha ⊢; exact ⟨rfl, hW p v ha⟩
    · rw [e a ea] at ha ⊢; exact h.pend a p v ha
  · intro a m' ha
    by_cases ea : a = t
    · subst ea; rw [e0] at ha ⊢; exact h.made a m' ha
    · rw [e a ea] at ha ⊢; exact h.made a m' ha
  · intro a k' ha
    have hq' : (A.T a).q = some k' := by
      by_cases ea : a = t
      · subst ea; rw [e0] at ha; exact ha
      · rw [e a ea] at ha; exact ha
    obtain ⟨n1, n2⟩ := h.near a k' hq'
    refine ⟨fun s hs => n1 s (by rw [eh] at hs; exact hs), fun u hu hlu hk p v hp => ?_⟩
    rw [eh]
    by_cases eu : u = t
    · subst eu; rw [e0] at hlu; cases hlu
    · rw [e u eu] at hlu hk hp; exact n2 u hu hlu hk p v hp
  · intro u hlu p v hp
    by_cases eu : u = t
    · subst eu; rw [e0] at hlu; cases hlu
    · rw [e u eu] at hlu hp ⊢
      have hv := h.rd u hlu p v hp
      show v = (if m ≤ (A.T u).S then appW W (H (A.T u).S) else H (A.T u).S) p
      by_cases hm : m ≤ (A.T u).S
      · rw [if_pos hm, appW_not (hnot p ((h.near t k hq).2 u eu hlu (Int.le_trans hkm hm) p v hp))]; exact hv
      · rw [if_neg hm]; exact hv
  · intro u p pv hlu hmid
    by_cases eu : u = t
    · subst eu; rw [e0] at hlu; cases hlu
    · rw [e u eu] at hlu hmid ⊢
      obtain ⟨h1, h2, h3⟩ := h.mid u p pv hlu hmid
      refine ⟨h1, h2, fun g hg hf hv => ?_⟩
      obtain ⟨k1, k2⟩ := hun p hf
      rw [appW_not (hnot p k1)]
      exact h3 g hg k2 hv
  · intro a ha
    by_cases ea : a = t
    · subst ea; rw [e0]
    · rw [e a ea] at ha ⊢; exact h.dl a ha

/-- One of its writes is laid. -/
theorem AInv.lay (h : AInv σ Good H Hc A) (t p : Nat) (v : Int) (rest : List (Nat × Int)) (hp : (A.T t).pend = (p, v) :: rest) :
    AInv σ Good H Hc (({ A with d := fset A.d p v } : AS).upd t { A.T t with pend := rest }) := by
  have hin : (p, v) ∈ (A.T t).pend := by rw [hp]; exact List.mem_cons_self ..
  obtain ⟨hd, hh⟩ := h.pend t p v hin
  have e : ∀ j, j ≠ t → (({ A with d := fset A.d p v } : AS).upd t { A.T t with pend := rest }).T j = A.T j := fun j hj => AS.upd_ne _ _ hj
  have e0 : (({ A with d := fset A.d p v } : AS).upd t { A.T t with pend := rest }).T t = { A.T t with pend := rest } := AS.upd_at _ t _
  obtain ⟨m, hM⟩ := h.decm t hd
  have eq : ∀ j, ∃ l, (({ A with d := fset A.d p v } : AS).upd t { A.T t with pend := rest }).T j = { A.T j with pend := l } := fun j => by
    by_cases ej : j = t
    · subst ej; exact ⟨_, e0⟩
    · exact ⟨(A.T j).pend, by rw [e j ej]⟩
  have hfr : ∀ p', (∀ a, ((({ A with d := fset A.d p v } : AS).upd t { A.T t with pend := rest }).T a).dec = true → ((({ A with d := fset A.d p v } : AS).upd t { A.T t with pend := rest }).T a).held (σ p') = false) → ∀ a, (A.T a).dec = true → (A.T a).held (σ p') = false := fun p' hx a ha => by
    obtain ⟨l, el⟩ := eq a
    have := hx a
    rw [el] at this
    exact this ha
  constructor
  · exact h.good
  · exact h.hc
  · intro a b s ha hb
    obtain ⟨la, ela⟩ := eq a
    obtain ⟨lb, elb⟩ := eq b
    rw [ela] at ha; rw [elb] at hb
    exact h.one a b s ha hb
  · exact h.verc
  · intro a ha
    obtain ⟨la, ela⟩ := eq a
    rw [ela] at ha ⊢
    exact h.stamp a ha
  · intro p' hx
    have hx' := hfr p' hx
    obtain ⟨f1, f2⟩ := h.free p' hx'
    refine ⟨?_, f2⟩
    have hne : p' ≠ p := fun e' => by subst e'; rw [hx' t hd] at hh; cases hh
    show fset A.d p v p' = Hc p'
    rw [fset_ne _ _ hne]
    exact f1
  · intro a p' m' ha hha hMa
    by_cases ea : a = t
    · subst ea
      rw [e0] at ha hha hMa ⊢
      obtain ⟨d1, d2, d3⟩ := h.decd a p' m' hd hha hMa
      rw [hp] at d2 d3
      refine ⟨d1, fun v' hv' => d2 v' (List.mem_cons_of_mem _ hv'), fun hn => ?_⟩
      show fset A.d p v p' = Hc p'
      by_cases ep : p' = p
      · subst ep
        rw [fset_at]
        exact (d2 v (List.mem_cons_self ..)).symm
      · rw [fset_ne _ _ ep]
        refine d3 fun v' hv' => ?_
        rcases List.mem_cons.1 hv' with hv' | hv'
        · simp only [Prod.mk.injEq] at hv'; exact ep hv'.1
        · exact hn v' hv'
    · rw [e a ea] at ha hha hMa ⊢
      obtain ⟨d1, d2, d3⟩ := h.decd a p' m' ha hha hMa
      refine ⟨d1, d2, fun hn => ?_⟩
      show fset A.d p v p' = Hc p'
      have hne : p' ≠ p := fun e' => by subst e'; exact ea (h.one a t _ hha hh)
      rw [fset_ne _ _ hne]
      exact d3 hn
  · intro a ha
    obtain ⟨la, ela⟩ := eq a
    rw [ela] at ha ⊢
    exact h.decm a ha
  · intro a p' v' ha
    by_cases ea : a = t
    · subst ea; rw [e0] at ha ⊢; exact h.pend a p' v' (by rw [hp]; exact List.mem_cons_of_mem _ ha)
    · rw [e a ea] at ha ⊢; exact h.pend a p' v' ha
  · intro a m' ha
    obtain ⟨la, ela⟩ := eq a
    rw [ela] at ha ⊢
    exact h.made a m' ha
  · intro a k ha
    obtain ⟨la, ela⟩ := eq a
    rw [ela] at ha ⊢
    refine ⟨(h.near a k ha).1, fun u hu hl hk p' v' hp' => ?_⟩
    obtain ⟨lu, elu⟩ := eq u
    rw [elu] at hl hk hp'
    exact (h.near a k ha).2 u hu hl hk p' v' hp'
  · intro u hl p' v' hp'
    obtain ⟨lu, elu⟩ := eq u
    rw [elu] at hl hp' ⊢
    exact h.rd u hl p' v' hp'
  · intro u p' pv hl hm
    obtain ⟨lu, elu⟩ := eq u
    rw [elu] at hl hm ⊢
    obtain ⟨h1, h2, h3⟩ := h.mid u p' pv hl hm
    exact ⟨h1, h2, fun g hg hf => h3 g hg (hfr p' hf)⟩
  · intro a ha
    obtain ⟨la, ela⟩ := eq a
    rw [ela] at ha ⊢
    exact h.dl a ha

/-- A stripe that it held is let go, with what was made. -/
theorem AInv.letgo (h : AInv σ Good H Hc A) (t s : Nat) (m : Int) (hd : (A.T t).dec = true) (hM : (A.T t).M = some m) (hp : (A.T t).pend = []) (hh : (A.T t).held s = true) :
    AInv σ Good H Hc (({ A with ver := fset A.ver s m } : AS).upd t { A.T t with held := fset (A.T t).held s false }) := by
  have e : ∀ j, j ≠ t → (({ A with ver := fset A.ver s m } : AS).upd t { A.T t with held := fset (A.T t).held s false }).T j = A.T j := fun j hj => AS.upd_ne _ _ hj
  have e0 : (({ A with ver := fset A.ver s m } : AS).upd t { A.T t with held := fset (A.T t).held s false }).T t = { A.T t with held := fset (A.T t).held s false } := AS.upd_at _ t _
  obtain ⟨hmc, hmv, kk, hqq, hkm⟩ := h.made t m hM
  have hms : A.ver s < m := hmv s hh
  have eq : ∀ j, ∃ l, (({ A with ver := fset A.ver s m } : AS).upd t { A.T t with held := fset (A.T t).held s false }).T j = { A.T j with held := l } ∧ (∀ s', l s' = true → (A.T j).held s' = true ∧ s' ≠ s) ∧ ∀ s', s' ≠ s → l s' = (A.T j).held s' := fun j => by
    by_cases ej : j = t
    · subst ej
      refine ⟨_, e0, fun s' hs' => ?_, fun s' hs' => fset_ne _ _ hs'⟩
      by_cases es : s' = s
      · subst es; rw [fset_at] at hs'; cases hs'
      · rw [fset_ne _ _ es] at hs'; exact ⟨hs', es⟩
    · refine ⟨(A.T j).held, by rw [e j ej], fun s' hs' => ⟨hs', fun es => ?_⟩, fun _ _ => rfl⟩
      subst es
      exact ej (h.one j t _ hs' hh)
  have hfr : ∀ p', (∀ a, ((({ A with ver := fset A.ver s m } : AS).upd t { A.T t with held := fset (A.T t).held s false }).T a).dec = true → ((({ A with ver := fset A.ver s m } : AS).upd t { A.T t with held := fset (A.T t).held s false }).T a).held (σ p') = false) →
      σ p' ≠ s → ∀ a, (A.T a).dec = true → (A.T a).held (σ p') = false := fun p' hx hne a ha => by
    obtain ⟨l, el, _, hl⟩ := eq a
    have := hx a
    rw [el] at this
    have := this ha
    rw [← hl _ hne]
    exact this
  have hvl : ∀ s', A.ver s' ≤ fset A.ver s m s' := fun s' => by
    by_cases es : s' = s
    · subst es; rw [fset_at]; omega
    · rw [fset_ne _ _ es]; exact Int.le_refl _
  constructor
  · exact h.good
  · exact h.hc
  · intro a b s' ha hb
    obtain ⟨la, ela, ha1, _⟩ := eq a
    obtain ⟨lb, elb, hb1, _⟩ := eq b
    rw [ela] at ha; rw [elb] at hb
    exact h.one a b s' (ha1 _ ha).1 (hb1 _ hb).1
  · intro s'
    show fset A.ver s m s' ≤ A.c
    by_cases es : s' = s
    · subst es; rw [fset_at]; exact hmc
    · rw [fset_ne _ _ es]; exact h.verc s'
  · intro a ha
    obtain ⟨la, ela, _⟩ := eq a
    rw [ela] at ha ⊢
    exact h.stamp a ha
  · intro p' hx
    by_cases es : σ p' = s
    · obtain ⟨d1, _, d3⟩ := h.decd t p' m hd (by rw [es]; exact hh) hM
      refine ⟨d3 (fun v hv => by rw [hp] at hv; cases hv), fun n hn => d1 n ?_⟩
      have hn : fset A.ver s m (σ p') ≤ n := hn
      rw [es, fset_at] at hn
      exact hn
    · obtain ⟨f1, f2⟩ := h.free p' (hfr p' hx es)
      refine ⟨f1, fun n hn => f2 n ?_⟩
      have hn : fset A.ver s m (σ p') ≤ n := hn
      rw [fset_ne _ _ es] at hn
      exact hn
  · intro a p' m' ha hha hMa
    obtain ⟨la, ela, ha1, _⟩ := eq a
    rw [ela] at ha hha hMa ⊢
    exact h.decd a p' m' ha (ha1 _ hha).1 hMa
  · intro a ha
    obtain ⟨la, ela, _⟩ := eq a
    rw [ela] at ha ⊢
    exact h.decm a ha
  · intro a p' v' ha
    by_cases ea : a = t
    · subst ea
      rw [e0] at ha
      have ha : (p', v') ∈ (A.T a).pend := ha
      rw [hp] at ha; cases ha
    · rw [e a ea] at ha ⊢; exact h.pend a p' v' ha
  · intro a m' ha
    obtain ⟨la, ela, ha1, _⟩ := eq a
    rw [ela] at ha ⊢
    obtain ⟨h1, h2, h3⟩ := h.made a m' ha
    refine ⟨h1, fun s' hs' => ?_, h3⟩
    show fset A.ver s m s' < m'
    rw [fset_ne _ _ (ha1 _ hs').2]
    exact h2 s' (ha1 _ hs').1
  · intro a k ha
    obtain ⟨la, ela, ha1, ha2⟩ := eq a
    rw [ela] at ha ⊢
    obtain ⟨n1, n2⟩ := h.near a k ha
    refine ⟨fun s' hs' => ?_, fun u hu hl hk p' v' hp' => ?_⟩
    · show fset A.ver s m s' < k
      rw [fset_ne _ _ (ha1 _ hs').2]
      exact n1 s' (ha1 _ hs').1
    · obtain ⟨lu, elu, _⟩ := eq u
      rw [elu] at hl hk hp'
      have := n2 u hu hl hk p' v' hp'
      cases hx : la (σ p') with
      | false => exact hx
      | true => rw [(ha1 _ hx).1] at this; cases this
  · intro u hl p' v' hp'
    obtain ⟨lu, elu, _⟩ := eq u
    rw [elu] at hl hp' ⊢
    exact h.rd u hl p' v' hp'
  · intro u p' pv hl hm
    obtain ⟨lu, elu, _⟩ := eq u
    rw [elu] at hl hm ⊢
    obtain ⟨h1, h2, h3⟩ := h.mid u p' pv hl hm
    refine ⟨Int.le_trans h1 (hvl _), h2, fun g hg hf hv => ?_⟩
    have hv : fset A.ver s m (σ p') = pv := hv
    by_cases es : σ p' = s
    · rw [es, fset_at] at hv
      rw [es] at h1
      omega
    · rw [fset_ne _ _ es] at hv
      exact h3 g hg (hfr p' hf es) hv
  · intro a ha
    obtain ⟨la, ela, _⟩ := eq a
    rw [ela] at ha ⊢
    exact h.dl a ha

/-- There is nothing yet. -/
theorem AInv.start (d : Nat → Int) (hg : Good d) : AInv σ Good (fun _ => d) d ⟨0, fun _ => 0, d, fun _ => idleT⟩ :=
  ⟨fun _ => hg, fun _ _ _ => rfl, (fun _ _ _ hx => by cases hx), fun _ => Int.le_refl _, (fun _ hx => by cases hx), fun _ _ => ⟨rfl, fun _ _ => rfl⟩, (fun _ _ _ hx => by cases hx), (fun _ hx => by cases hx), (fun _ _ _ hx => by cases hx),
    (fun _ _ hx => by cases hx), (fun _ _ hx => by cases hx), (fun _ hx => by cases hx), (fun _ _ _ hx => by cases hx), (fun _ hx => by cases hx)⟩
end

end Go.Proofs.Ytjfinnjmcnjciaa

namespace Go.Proofs.Ytjfinnjmcnjciaa
open Go.RowKit

structure TX where
  m : PM
  th : Int
  ck : Int
  top : Int
  mr : Nat
  mw : Nat
  rs : List Wd
  ws : List Wd
  asked : Nat
  wt : List Wd
  alive : Bool
  sure : Bool
  phased : Bool
  job : Int
  st : Int
  i : Nat
  at_ : Int
  got : Int
  pre : Int
  next : Int
  val : Int
  stamp : Int
  made : Int
  cause : Int
  rows : List Int
  old : List Int
  bump : BD

def TX.new (m : PM) (th ck : Int) (mr mw : Nat) (top : Int) : TX := ⟨m, th, ck, top, mr, mw, [], [], 0, [], false, false, false, 0, 0, 0, 0, 0, 0, 0, 0, 0, 0, 0, [], [], b0⟩
def TX.clockP (x : TX) : Int := x.m.at_ 0 0 0
def TX.phaseP (x : TX) : Int := x.m.at_ 4 x.th 0
def TX.stripeP (x : TX) (k : Int) : Int := x.m.at_ 2 k 0
def TX.end_ (x : TX) : Int × TX := (1, { x with job := 0 })
def TX.abort (x : TX) (c : Int) : Int × TX :=
  if x.old = [] ∧ x.phased = false then (2, { x with cause := c, made := 0, alive := false, job := 0, st := 0, i := 0 })
  else (0, { x with cause := c, made := 0, alive := false, job := 5, st := 0, i := 0 })

/-! ### What is asked -/
def txBegin (x : TX) : Int × TX :=
  if x.alive = true ∨ x.job ≠ 0 then (2, x)
  else (0, { x with rs := [], ws := [], asked := 0, wt := [], rows := [], old := [], alive := true, sure := false, phased := false, cause := 0, made := 0, val := 0, job := 1, st := 0, i := 0 })
def txWatch (x : TX) (a v : Int) : TX := if x.alive = true then { x with wt := x.wt ++ [(a, v)] } else x
def txRead (x : TX) (a : Int) : Int × TX :=
  if x.alive = true ∧ x.job = 0 then
    if 0 ≤ a ∧ a < x.m.size then
      if hasL x.ws a = true then (1, { x with st := 0, i := 0, asked := (if mayL x.ws a = true then x.asked + 1 else x.asked), val := valL x.ws a, job := 0 })
      else if roomL x.mr x.rs (x.m.hash a) = true then (0, { x with job := 2, st := 0, i := 0, asked := (if mayL x.ws a = true then x.asked + 1 else x.asked), at_ := a })
      else ({ x with job := 2, st := 0, i := 0, asked := (if mayL x.ws a = true then x.asked + 1 else x.asked) } : TX).abort 4
    else ({ x with job := 2, st := 0, i := 0 } : TX).abort 4
  else (2, x)
def txWrite (x : TX) (a v : Int) : Int × TX :=
  if x.alive = true ∧ x.job = 0 then
    if 0 ≤ a ∧ a < x.m.size ∧ wputB x.mw x.ws a = true then (1, { x with ws := wputL x.mw x.ws a v }) else x.abort 4
  else (2, x)
def txCommit (x : TX) : Int × TX := if x.alive = true ∧ x.job = 0 then (0, { x with job := 4, st := 0, i := 0 }) else (2, x)
def txKill (x : TX) (c : Int) : Int × TX := if x.alive = true ∧ x.sure = false then x.abort c else (1, x)

/-! ### Its steps -/
def stBegin (s : MS) (x : TX) : Int × TX × MS := (1, { x with stamp := s.vAt x.clockP, job := 0 }, s.loaded x.clockP)
/-- A watched place is looked at: 0: go on; 1: that was the last one; 2: it is another one. -/
def watchF (s : MS) (x : TX) : Int × TX × MS :=
  if s.vAt (x.wt.getD x.i (0, 0)).1 ≠ (x.wt.getD x.i (0, 0)).2 then (2, x, s.loaded (x.wt.getD x.i (0, 0)).1)
  else (if x.i + 1 = x.wt.length then 1 else 0, { x with i := x.i + 1 }, s.loaded (x.wt.getD x.i (0, 0)).1)
/-- All is looked at. -/
def readEnd (x : TX) : Int × TX :=
  if x.i < x.wt.length then (0, x) else (1, { x with val := x.got, rs := putL x.mr x.rs (x.m.hash x.at_) 0, job := 0 })
def stRead (s : MS) (x : TX) : Int × TX × MS :=
  if x.st = 0 then
    if freshF (s.vAt (x.stripeP (x.m.hash x.at_))) x.stamp ≠ 0 then
      ((({ x with pre := s.vAt (x.stripeP (x.m.hash x.at_)) } : TX).abort (freshF (s.vAt (x.stripeP (x.m.hash x.at_))) x.stamp)).1, (({ x with pre := s.vAt (x.stripeP (x.m.hash x.at_)) } : TX).abort (freshF (s.vAt (x.stripeP (x.m.hash x.at_))) x.stamp)).2, s.loaded (x.stripeP (x.m.hash x.at_)))
    else (0, { x with pre := s.vAt (x.stripeP (x.m.hash x.at_)), st := 1 }, s.loaded (x.stripeP (x.m.hash x.at_)))
  else if x.st = 1 then (0, { x with got := s.vAt x.at_, st := 2 }, s.loaded x.at_)
  else if x.st = 2 then
    if s.vAt (x.stripeP (x.m.hash x.at_)) ≠ x.pre then ((x.abort 2).1, (x.abort 2).2, s.loaded (x.stripeP (x.m.hash x.at_)))
    else ((readEnd { x with st := 3 }).1, (readEnd { x with st := 3 }).2, s.loaded (x.stripeP (x.m.hash x.at_)))
  else if (watchF s x).1 = 0 then (0, (watchF s x).2)
  else if (watchF s x).1 = 2 then ((x.abort 3).1, (x.abort 3).2, (watchF s x).2.2)
  else ((readEnd (watchF s x).2.1).1, (readEnd (watchF s x).2.1).2, (watchF s x).2.2)
/-- Is it decided? -/
def TX.tell (x : TX) : TX :=
  if x.st ≠ 5 ∨ x.i < x.wt.length then x else { x with sure := true, i := 0, st := if x.ws = [] then 8 else 6 }
def startB (ck : Int) : BD := if ck = 1 then ⟨1, 0, 0, 0⟩ else if ck = 2 then ⟨2, 0, 0, 0⟩ else b0
def stCommit (s : MS) (x : TX) : Int × TX × MS :=
  if x.st = 0 then
    (0, ({ x with phased := true, i := 0, st := if x.ws = [] then 5 else 1, rows := if x.ws = [] then x.rows else rowsL x.m (x.ws.map fun p => p.1) x.m.s.toNat } : TX).tell, s.stored x.phaseP 2)
  else if x.st = 1 then
    if 0 ≤ holF (s.vAt (x.stripeP (x.rows.getD x.i 0))) then
      ((({ x with pre := s.vAt (x.stripeP (x.rows.getD x.i 0)) } : TX).abort 1).1, (({ x with pre := s.vAt (x.stripeP (x.rows.getD x.i 0)) } : TX).abort 1).2, s.loaded (x.stripeP (x.rows.getD x.i 0)))
    else (0, { x with pre := s.vAt (x.stripeP (x.rows.getD x.i 0)), st := 2 }, s.loaded (x.stripeP (x.rows.getD x.i 0)))
  else if x.st = 2 then
    if s.okAt (x.stripeP (x.rows.getD x.i 0)) x.pre = true then
      (0, if x.i + 1 = x.rows.length then { x with old := x.old ++ [x.pre], i := x.i + 1, st := 3, bump := startB x.ck } else { x with old := x.old ++ [x.pre], i := x.i + 1, st := 1 },
        s.swapped (x.stripeP (x.rows.getD x.i 0)) x.pre (takeF x.pre x.th))
    else ((x.abort 1).1, (x.abort 1).2, s.swapped (x.stripeP (x.rows.getD x.i 0)) x.pre (takeF x.pre x.th))
  else if x.st = 3 then
    if (bumpF x.m s x.bump).1.s ≠ 9 then (0, { x with bump := (bumpF x.m s x.bump).1 }, (bumpF x.m s x.bump).2)
    else if x.top < (bumpF x.m s x.bump).1.p then
      ((({ x with bump := (bumpF x.m s x.bump).1, made := (bumpF x.m s x.bump).1.p } : TX).abort 5).1, (({ x with bump := (bumpF x.m s x.bump).1, made := (bumpF x.m s x.bump).1.p } : TX).abort 5).2, (bumpF x.m s x.bump).2)
    else (0, ({ x with bump := (bumpF x.m s x.bump).1, made := (bumpF x.m s x.bump).1.p, i := 0, st := if ((bumpF x.m s x.bump).1.k = 1 ∧ (bumpF x.m s x.bump).1.p = wrap64 (x.stamp + 1)) ∨ x.rs = [] then 5 else 4 } : TX).tell, (bumpF x.m s x.bump).2)
  else if x.st = 4 then
    if 0 ≤ holF (s.vAt (x.stripeP (x.rs.getD x.i (0, 0)).1)) ∧ holF (s.vAt (x.stripeP (x.rs.getD x.i (0, 0)).1)) ≠ x.th then ((x.abort 1).1, (x.abort 1).2, s.loaded (x.stripeP (x.rs.getD x.i (0, 0)).1))
    else if x.stamp < verF (s.vAt (x.stripeP (x.rs.getD x.i (0, 0)).1)) then ((x.abort 2).1, (x.abort 2).2, s.loaded (x.stripeP (x.rs.getD x.i (0, 0)).1))
    else (0, if x.i + 1 < x.rs.length then { x with i := x.i + 1 } else ({ x with st := 5, i := 0 } : TX).tell, s.loaded (x.stripeP (x.rs.getD x.i (0, 0)).1))
  else if x.st = 5 then
    if (watchF s x).1 = 2 then ((x.abort 3).1, (x.abort 3).2, (watchF s x).2.2)
    else (0, (watchF s x).2.1.tell, (watchF s x).2.2)
  else if x.st = 6 then
    (0, if x.i + 1 = x.ws.length then { x with st := 7, i := 0 } else { x with i := x.i + 1 }, s.stored (x.ws.getD x.i (0, 0)).1 (x.ws.getD x.i (0, 0)).2)
  else if x.st = 7 then
    (0, if x.i + 1 = x.rows.length then { x with st := 8, i := x.i + 1 } else { x with i := x.i + 1 }, s.stored (x.stripeP (x.rows.getD x.i 0)) (freeF x.made))
  else (1, { x with stamp := if x.ws = [] then x.stamp else x.made, alive := false, job := 0 }, s.stored x.phaseP 0)
def stUndo (s : MS) (x : TX) : Int × TX × MS :=
  if x.i < x.old.length then
    (if x.i + 1 < x.old.length ∨ x.phased = true then 0 else 2, { x with i := x.i + 1, job := if x.i + 1 < x.old.length ∨ x.phased = true then 5 else 0 }, s.stored (x.stripeP (x.rows.getD x.i 0)) (x.old.getD x.i 0))
  else (2, { x with phased := false, job := 0 }, s.stored x.phaseP 0)
/-- One access. -/
def txStep (s : MS) (x : TX) : Int × TX × MS :=
  if x.job = 1 then stBegin s x else if x.job = 2 then stRead s x else if x.job = 4 then stCommit s x else if x.job = 5 then stUndo s x else (1, x, s)

end Go.Proofs.Ytjfinnjmcnjciaa

namespace Go.Proofs.Ytjfinnjmcnjciaa
open Go.RowKit

theorem va_in {s : MS} {q : Int} (h : s.has q) : s.vAt q = s.zs.getD q.toNat 0 := if_pos h
theorem va_out {s : MS} {q : Int} (h : ¬ s.has q) : s.vAt q = 0 := if_neg h
theorem has_len {s s' : MS} (h : s'.zs.length = s.zs.length) (q : Int) : s'.has q ↔ s.has q := by unfold MS.has; rw [h]
theorem va_same {s s' : MS} (h : s'.zs = s.zs) (q : Int) : s'.vAt q = s.vAt q := by
  by_cases hq : s.has q
  · rw [va_in hq, va_in ((has_len (by rw [h]) q).2 hq), h]
  · rw [va_out hq, va_out (fun hh => hq ((has_len (by rw [h]) q).1 hh))]
theorem vq_loaded (s : MS) (p q : Int) : (s.loaded p).vAt q = s.vAt q := by
  refine va_same ?_ q
  unfold MS.loaded
  split <;> rfl
theorem vq_put {s s' : MS} {p : Int} (h : s.has p) (v : Int) (hz : s'.zs = s.zs.set p.toNat v) (q : Int) : s'.vAt q = if q = p then v else s.vAt q := by
  have hl : s'.zs.length = s.zs.length := by rw [hz, List.length_set]
  obtain ⟨h0, h1⟩ := h
  by_cases hq : q = p
  · subst hq
    rw [va_in ((has_len hl q).2 ⟨h0, h1⟩), if_pos rfl, hz, List.getD_eq_getElem?_getD, List.getElem?_set_self (by omega)]
    rfl
  · rw [if_neg hq]
    by_cases hh : s.has q
    · have h2 := hh.1
      rw [va_in hh, va_in ((has_len hl q).2 hh), hz, List.getD_eq_getElem?_getD, List.getD_eq_getElem?_getD, List.getElem?_set_ne (by omega)]
    · rw [va_out hh, va_out (fun h => hh ((has_len hl q).1 h))]
theorem vq_stored {s : MS} {p : Int} (h : s.has p) (v q : Int) : (s.stored p v).vAt q = if q = p then v else s.vAt q :=
  vq_put h v (by unfold MS.stored; rw [if_pos h]; rfl) q
theorem vq_added {s : MS} {p : Int} (h : s.has p) (v q : Int) : (s.added p v).vAt q = if q = p then wrap64 (s.vAt p + v) else s.vAt q := by
  rw [va_in h]
  exact vq_put h _ (by unfold MS.added; rw [if_pos h]; rfl) q
theorem ok_iff {s : MS} {p : Int} (h : s.has p) (o : Int) : s.okAt p o = decide (s.vAt p = o) := by
  rw [va_in h]
  unfold MS.okAt
  simp [h]
theorem vq_swap {s : MS} {p : Int} (h : s.has p) (o v q : Int) : (s.swapped p o v).vAt q = if s.vAt p = o ∧ q = p then v else s.vAt q := by
  by_cases ho : s.vAt p = o
  · have ho' := ho
    rw [va_in h] at ho'
    rw [vq_put (s' := s.swapped p o v) h v (by unfold MS.swapped; rw [if_pos h, if_pos ho']; rfl) q]
    by_cases hq : q = p
    · rw [if_pos hq, if_pos ⟨ho, hq⟩]
    · rw [if_neg hq, if_neg (fun h => hq h.2)]
  · have ho' := ho
    rw [va_in h] at ho'
    rw [if_neg (fun h => ho h.1)]
    exact va_same (by unfold MS.swapped; rw [if_pos h, if_neg ho']; rfl) q

/-- Three stripes, one lock, three threads, four words. -/
@[reducible] def mT : PM := ⟨3, 1, 3, 0, 4⟩
theorem mT_ok : mT.Ok := by decide
def sgm (d : Nat) : Nat := (mT.hash (26 + 2 * (d : Int))).toNat
theorem mT_size : mT.size = 34 := by decide
theorem mT_clock : mT.at_ 0 0 0 = 0 := by decide
theorem mT_stripe {k : Nat} (h : k < 3) : mT.at_ 2 (k : Int) 0 = 2 + (k : Int) := by
  have : k = 0 ∨ k = 1 ∨ k = 2 := by omega
  rcases this with rfl | rfl | rfl <;> decide
theorem mT_phase {t : Nat} (h : t < 3) : mT.at_ 4 (t : Int) 0 = 11 + 2 * (t : Int) := by
  have : t = 0 ∨ t = 1 ∨ t = 2 := by omega
  rcases this with rfl | rfl | rfl <;> decide
theorem mT_data {d : Nat} (h : d < 4) : mT.at_ 8 (d : Int) 0 = 26 + 2 * (d : Int) := by
  have : d = 0 ∨ d = 1 ∨ d = 2 ∨ d = 3 := by omega
  rcases this with rfl | rfl | rfl | rfl <;> decide
theorem mT_hash {d : Nat} (h : d < 4) : mT.hash (26 + 2 * (d : Int)) = (sgm d : Int) ∧ sgm d < 3 := by
  have : d = 0 ∨ d = 1 ∨ d = 2 ∨ d = 3 := by omega
  rcases this with rfl | rfl | rfl | rfl <;> decide

theorem hol_free {x : Int} : holF x < 0 ↔ x % 16 = 0 := by unfold holF; omega
theorem fresh_zero {x s : Int} (h : freshF x s = 0) : x % 16 = 0 ∧ x / 16 ≤ s := by
  unfold freshF at h
  by_cases h1 : x % 16 ≠ 0
  · rw [if_pos h1] at h; cases h
  · rw [if_neg h1] at h
    by_cases h2 : s < x / 16
    · rw [if_pos h2] at h; cases h
    · exact ⟨by omega, by omega⟩
theorem take_free {x : Int} {t : Nat} (h : x % 16 = 0) (ht : t < 3) : takeF x (t : Int) = x + (t : Int) + 1 := by
  unfold takeF
  rw [if_pos ⟨by omega, by omega⟩]
  omega

end Go.Proofs.Ytjfinnjmcnjciaa

namespace Go.Proofs.Ytjfinnjmcnjciaa
open Go.RowKit

/-- To read a place, or (true) to write it: what was read there, and so much more. -/
abbrev Pl := List (Bool × Nat × Int)
structure RU where
  x : TX
  plan : Pl
  i : Nat
  busy : Bool
  fin : Int
  read : List (Nat × Int)
def dataP (d : Nat) : Int := 26 + 2 * (d : Int)
def valR (rd : List (Nat × Int)) (a : Nat) (v : Int) : Int := rd.foldl (fun y p => if p.1 = a then wrap64 (p.2 + v) else y) v
/-- What was asked is done. -/
def doneR (u : RU) : RU :=
  if u.plan.length < u.i then { u with busy := false, fin := 1 }
  else { u with busy := false, read := if 0 < u.i ∧ (u.plan.getD (u.i - 1) (false, 0, 0)).1 = false then u.read ++ [((u.plan.getD (u.i - 1) (false, 0, 0)).2.1, u.x.val)] else u.read, i := u.i + 1 }
/-- What the next thing of its plan comes to. -/
def askC (u : RU) : Int × TX :=
  if u.i = 0 then txBegin u.x else if u.plan.length < u.i then txCommit u.x
  else if (u.plan.getD (u.i - 1) (false, 0, 0)).1 = false then txRead u.x (dataP (u.plan.getD (u.i - 1) (false, 0, 0)).2.1)
  else txWrite u.x (dataP (u.plan.getD (u.i - 1) (false, 0, 0)).2.1) (valR u.read (u.plan.getD (u.i - 1) (false, 0, 0)).2.1 (u.plan.getD (u.i - 1) (false, 0, 0)).2.2)
def tookC (u : RU) (c : Int) : RU := if c = 1 then doneR u else if c = 2 then { u with fin := 2 } else u
def askR (u : RU) : RU := tookC { u with x := (askC u).2, busy := decide ((askC u).1 = 0) } (askC u).1
def asksR : Nat → RU → RU
  | 0, u => u
  | n + 1, u => if u.busy = false ∧ u.fin = 0 then asksR n (askR u) else u
def stepR (s : MS) (u : RU) : RU := if (txStep s u.x).1 = 1 then doneR { u with x := (txStep s u.x).2.1 } else if (txStep s u.x).1 = 2 then { u with x := (txStep s u.x).2.1, fin := 2 } else { u with x := (txStep s u.x).2.1 }
def nextR (s : MS) (u : RU) : RU × MS :=
  if u.fin ≠ 0 then (u, s)
  else if (asksR 9 u).fin ≠ 0 then (asksR 9 u, s)
  else (stepR s (asksR 9 u), (txStep s (asksR 9 u).x).2.2)

/-! ### What stands where -/
structure Wds (s : MS) (A : AS) : Prop where
  len : s.zs.length = 34
  clk : s.vAt 0 = A.c
  dat : ∀ d : Nat, d < 4 → s.vAt (26 + 2 * (d : Int)) = A.d d
  str : ∀ k : Nat, k < 3 → (∀ t, (A.T t).held k = false) → s.vAt (2 + (k : Int)) = A.ver k * 16
  sth : ∀ k : Nat, k < 3 → ∀ t : Nat, (A.T t).held k = true → s.vAt (2 + (k : Int)) = A.ver k * 16 + (t : Int) + 1
  hb : ∀ t k, (A.T t).held k = true → k < 3 ∧ t < 3
theorem Wds.has {s : MS} {A : AS} (h : Wds s A) {p : Int} (h0 : 0 ≤ p) (h1 : p < 34) : s.has p := ⟨h0, by rw [h.len]; exact h1⟩
theorem Wds.same {s s' : MS} {A A' : AS} (h : Wds s A) (hz : s'.zs.length = s.zs.length) (hv : ∀ q, (q = 0 ∨ 2 ≤ q ∧ q < 5 ∨ 26 ≤ q) → s'.vAt q = s.vAt q) (hh : ∀ j k, (A'.T j).held k = (A.T j).held k) (hc : A'.c = A.c) (hd : A'.d = A.d) (hr : A'.ver = A.ver) : Wds s' A' :=
  ⟨hz.trans h.len, by rw [hv 0 (.inl rfl), hc]; exact h.clk, fun d hd' => by rw [hv _ (.inr (.inr (by omega))), hd]; exact h.dat d hd',
    fun k hk hn => by rw [hv _ (.inr (.inl (by omega))), hr]; exact h.str k hk fun t => by rw [← hh]; exact hn t,
    fun k hk t ht => by rw [hv _ (.inr (.inl (by omega))), hr]; exact h.sth k hk t (by rw [← hh]; exact ht), fun t k ht => h.hb t k (by rw [← hh]; exact ht)⟩
/-- Of a stripe that is free as it reads, nobody holds it, and so much is its version. -/
theorem Wds.free {s : MS} {A : AS} (h : Wds s A) {k : Nat} (hk : k < 3) (hf : s.vAt (2 + (k : Int)) % 16 = 0) : (∀ t, (A.T t).held k = false) ∧ s.vAt (2 + (k : Int)) = A.ver k * 16 := by
  have hn : ∀ t, (A.T t).held k = false := fun t => by
    cases hx : (A.T t).held k with
    | false => rfl
    | true =>
      have h1 := h.sth k hk t hx
      have h2 := (h.hb t k hx).2
      omega
  exact ⟨hn, h.str k hk hn⟩

/-- Rows: stripes that are, each once. -/
structure RowsOk (rows : List Int) : Prop where
  nd : rows.Nodup
  one : ∀ r ∈ rows, ∃ k : Nat, k < 3 ∧ r = (k : Int)
def heldL (l : List Int) : Nat → Bool := fun k => decide ((k : Int) ∈ l)
theorem heldL_nil : heldL [] = fun _ => false := by funext k; simp [heldL]
theorem heldL_take {rows : List Int} {i k : Nat} (h : rows[i]? = some (k : Int)) : fset (heldL (rows.take i)) k true = heldL (rows.take (i + 1)) := by
  obtain ⟨hl, he⟩ := List.getElem?_eq_some_iff.1 h
  funext j
  rw [List.take_succ_eq_append_getElem hl, he]
  unfold fset heldL
  by_cases e : j = k
  · subst e; simp
  · rw [if_neg e, decide_eq_decide]
    simp
    omega
theorem heldL_drop {l : List Int} {i k : Nat} (hn : l.Nodup) (h : l[i]? = some (k : Int)) : fset (heldL (l.drop i)) k false = heldL (l.drop (i + 1)) := by
  obtain ⟨hl, he⟩ := List.getElem?_eq_some_iff.1 h
  have hd : l.drop i = (k : Int) :: l.drop (i + 1) := by rw [List.drop_eq_getElem_cons hl, he]
  have hnd : (l.drop i).Nodup := hn.sublist (List.drop_sublist _ _)
  rw [hd] at hnd ⊢
  have hk := (List.nodup_cons.1 hnd).1
  funext j
  unfold fset heldL
  by_cases e : j = k
  · subst e; rw [if_pos rfl, decide_eq_false hk]
  · rw [if_neg e, decide_eq_decide]
    simp
    omega
theorem heldL_new {rows : List Int} {i k : Nat} (hn : rows.Nodup) (h : rows[i]? = some (k : Int)) : heldL (rows.take i) k = false := by
  obtain ⟨hl, he⟩ := List.getElem?_eq_some_iff.1 h
  unfold heldL
  rw [decide_eq_false_iff_not]
  intro hm
  have h2 : (rows.take (i + 1)).Nodup := hn.sublist (List.take_sublist _ _)
  rw [List.take_succ_eq_append_getElem hl, he] at h2
  have := (List.nodup_append.1 h2).2.2
  exact this _ hm _ (List.mem_singleton_self _) rfl

/-! ### Plans -/
def PR : Pl := [(false, 0, 0), (false, 1, 0), (false, 2, 0), (false, 3, 0)]
def PW (f g : Nat) (k : Int) : Pl := [(false, f, 0), (false, g, 0), (true, f, -k), (true, g, k)]
/-- How many it reads. -/
def nrd (p : Pl) : Nat := (p.filter fun o => !o.1).length
inductive PlanOk : Pl → Prop
  | reads : PlanOk PR
  | moves (f g : Nat) (k : Int) (hf : f < 4) (hg : g < 4) (hfg : f ≠ g) : PlanOk (PW f g k)
theorem PlanOk.len {p : Pl} (h : PlanOk p) : p.length = 4 ∧ nrd p ≤ 4 ∧ 2 ≤ nrd p := by cases h <;> simp [PR, PW, nrd]
theorem PlanOk.at {p : Pl} (h : PlanOk p) {j : Nat} (hj : j < nrd p) : ∃ d : Nat, d < 4 ∧ (p : List (Bool × Nat × Int))[j]? = some (false, d, 0) ∧ p.getD j (false, 0, 0) = (false, d, 0) := by
  cases h with
  | reads =>
    have hj : j < 4 := hj
    match j, hj with
    | 0, _ => exact ⟨0, by decide, rfl, rfl⟩
    | 1, _ => exact ⟨1, by decide, rfl, rfl⟩
    | 2, _ => exact ⟨2, by decide, rfl, rfl⟩
    | 3, _ => exact ⟨3, by decide, rfl, rfl⟩
  | moves f g k hf hg hfg =>
    have hj : j < 2 := hj
    match j, hj with
    | 0, _ => exact ⟨f, hf, rfl, rfl⟩
    | 1, _ => exact ⟨g, hg, rfl, rfl⟩
/-- What was read so far is what the plan says. -/
structure RdOk (p : Pl) (rd : List (Nat × Int)) : Prop where
  len : rd.length ≤ nrd p
  at_ : ∀ (j a : Nat) (v : Int), rd[j]? = some (a, v) → (p : List (Bool × Nat × Int))[j]? = some (false, a, 0)
theorem RdOk.lt {p : Pl} {rd : List (Nat × Int)} (hp : PlanOk p) (h : RdOk p rd) {a : Nat} {v : Int} (hm : (a, v) ∈ rd) : a < 4 := by
  obtain ⟨j, hj⟩ := List.mem_iff_getElem?.1 hm
  have hl := (List.getElem?_eq_some_iff.1 hj).1
  obtain ⟨d, hd, e, _⟩ := hp.at (j := j) (Nat.lt_of_lt_of_le hl h.len)
  rw [h.at_ j a v hj] at e
  simp at e
  omega
theorem RdOk.snoc {p : Pl} {rd : List (Nat × Int)} (h : RdOk p rd) {d : Nat} (v : Int) (hl : rd.length < nrd p) (hd : (p : List (Bool × Nat × Int))[rd.length]? = some (false, d, 0)) : RdOk p (rd ++ [(d, v)]) := by
  refine ⟨by rw [List.length_append, List.length_singleton]; omega, fun j a w hj => ?_⟩
  by_cases e : j < rd.length
  · rw [List.getElem?_append_left e] at hj; exact h.at_ j a w hj
  · have hjl := (List.getElem?_eq_some_iff.1 hj).1
    simp at hjl
    obtain rfl : j = rd.length := by omega
    rw [List.getElem?_append_right (Nat.le_refl _), Nat.sub_self] at hj
    simp at hj
    rw [← hj.1]
    exact hd
/-- The stripes that its reads have. -/
structure RsOk (rs : List Wd) (rd : List (Nat × Int)) : Prop where
  has : ∀ a v, (a, v) ∈ rd → hasL rs (sgm a : Int) = true
  len : rs.length ≤ rd.length
  one : ∀ p ∈ rs, ∃ k : Nat, k < 3 ∧ p.1 = (k : Int)
  ne : rd ≠ [] → rs ≠ []
theorem RsOk.nil : RsOk [] [] := ⟨(fun _ _ h => by cases h), Nat.le_refl _, (fun _ h => by cases h), fun h => absurd rfl h⟩
theorem RsOk.snoc {rs : List Wd} {rd : List (Nat × Int)} (h : RsOk rs rd) {d : Nat} (hd : d < 4) (v : Int) (hl : rd.length < 32) : RsOk (putL 32 rs (sgm d : Int) 0) (rd ++ [(d, v)]) := by
  have hk := (mT_hash hd).2
  have hl2 := h.len
  have hcase : (hasL rs (sgm d : Int) = true ∧ putL 32 rs (sgm d : Int) 0 = rs) ∨ putL 32 rs (sgm d : Int) 0 = rs ++ [((sgm d : Int), (0 : Int))] := by
    cases hh : hasL rs (sgm d : Int) with
    | true => exact .inl ⟨rfl, putL_there _ hh⟩
    | false => exact .inr (putL_new _ hh (by omega))
  rcases hcase with ⟨hh, e⟩ | e
  · rw [e]
    refine ⟨fun a w hm => ?_, by rw [List.length_append]; omega, h.one, fun _ => ?_⟩
    · rcases List.mem_append.1 hm with hm | hm
      · exact h.has a w hm
      · simp at hm; rw [hm.1]; exact hh
    · intro e2; subst e2; cases hh
  · rw [e]
    refine ⟨fun a w hm => ?_, by rw [List.length_append, List.length_append, List.length_singleton, List.length_singleton]; omega, fun p hp => ?_, fun _ => by simp⟩
    · rw [hasL_snoc]
      rcases List.mem_append.1 hm with hm | hm
      · rw [h.has a w hm]; rfl
      · simp at hm; rw [hm.1]; simp
    · rcases List.mem_append.1 hp with hp | hp
      · exact h.one p hp
      · simp at hp; subst hp; exact ⟨_, hk, rfl⟩

end Go.Proofs.Ytjfinnjmcnjciaa
