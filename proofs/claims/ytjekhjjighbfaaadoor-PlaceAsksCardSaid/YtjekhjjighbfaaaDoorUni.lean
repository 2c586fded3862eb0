/-
  No two words have one name.
-/
import Derived.Test.YtjekhjjighbfaaaDoorName
namespace Go.Proofs.YtjekhjjighbfaaaDoor
open Go.RowKit

/-- All words that there can be: kind, which, which, part. -/
def uni : List (Nat × Nat × Nat × Nat) :=
  (List.range 9).flatMap fun k => (List.range ([1, 1, 16, 4, 4, 4, 4, 4, 32].getD k 0)).flatMap fun x => (List.range (if k = 5 then 4 else 1)).flatMap fun y => (List.range ([1, 1, 1, 6, 2, 2, 1, 6, 2].getD k 0)).map fun p => (k, x, y, p)
def uniName (u : Nat × Nat × Nat × Nat) : List UInt8 :=
  match u with
  | (k, x, y, p) => if k = 0 ∨ k = 1 then kindL k p else if k = 2 ∨ k = 6 ∨ k = 8 then kindL k p ++ 32 :: dd x
    else if k = 5 then kindL 5 p ++ 32 :: (dd x ++ 32 :: (dd y ++ 32 :: partL 5 p)) else kindL k p ++ 32 :: (dd x ++ 32 :: partL k p)
def code (l : List UInt8) : Nat := l.foldl (fun n b => n * 256 + b.toNat) 0
def apartB : List Nat → Bool
  | [] => true
  | a :: l => (l.all fun b => !(Nat.beq a b)) && apartB l

theorem apart_inj {α : Type} (f : α → Nat) : ∀ (l : List α), apartB (l.map f) = true → ∀ x ∈ l, ∀ y ∈ l, f x = f y → x = y := by
  intro l
  induction l with
  | nil => intro _ x hx; cases hx
  | cons a l ih =>
    intro h x hx y hy he
    simp only [List.map_cons, apartB, Bool.and_eq_true, List.all_eq_true, Bool.not_eq_true'] at h
    have key : ∀ z ∈ l, f a ≠ f z := fun z hz e => by
      have := h.1 (f z) (List.mem_map_of_mem hz)
      rw [e] at this
      simp at this
    rcases List.mem_cons.1 hx with hx1 | hx1
    · rcases List.mem_cons.1 hy with hy1 | hy1
      · rw [hx1, hy1]
      · rw [hx1] at he; exact absurd he (key y hy1)
    · rcases List.mem_cons.1 hy with hy1 | hy1
      · rw [hy1] at he; exact absurd he.symm (key x hx1)
      · exact ih h.2 x hx1 y hy1 he

theorem uni_apart : apartB (uni.map fun u => code (uniName u)) = true := by decide +kernel
theorem uni_inj {x y : Nat × Nat × Nat × Nat} (hx : x ∈ uni) (hy : y ∈ uni) (h : uniName x = uniName y) : x = y :=
  apart_inj (fun u => code (uniName u)) uni uni_apart x hx y hy (by show code _ = code _; rw [h])
theorem uni_full : (uni.all fun u => !(uniName u).isEmpty && decide ((uniName u).length ≤ 20)) = true := by decide +kernel

/-- A word of a map, among all words. -/
def inUni (L k i p : Nat) : Nat × Nat × Nat × Nat := (k, if k = 5 then i / L else i, if k = 5 then i % L else 0, p)
theorem nameL_uni (L k i p : Nat) : nameL L k i p = uniName (inUni L k i p) := by
  unfold nameL uniName inUni
  by_cases h : k = 5
  · subst h; rfl
  · simp [h]

theorem has_uni {m : PM} (h : m.Ok) {k i p : Nat} (hh : m.Has k i p) : inUni m.l.toNat k i p ∈ uni := by
  obtain ⟨h1, h2, h3⟩ := hh
  have hl := h.l1
  have hl4 := h.l2
  have ht4 := h.t2
  have htl := m.tl h
  have hs := h.s2
  have hc := h.c2
  have hd := h.d2
  have mem : ∀ (x y : Nat), x < [1, 1, 16, 4, 4, 4, 4, 4, 32].getD k 0 → y < (if k = 5 then 4 else 1) → p < [1, 1, 1, 6, 2, 2, 1, 6, 2].getD k 0 → (k, x, y, p) ∈ uni := fun x y a b c => by
    unfold uni
    rw [List.mem_flatMap]
    refine ⟨k, List.mem_range.2 h1, ?_⟩
    rw [List.mem_flatMap]
    refine ⟨x, List.mem_range.2 a, ?_⟩
    rw [List.mem_flatMap]
    refine ⟨y, List.mem_range.2 b, ?_⟩
    exact List.mem_map.2 ⟨p, List.mem_range.2 c, rfl⟩
  unfold inUni
  have : k = 0 ∨ k = 1 ∨ k = 2 ∨ k = 3 ∨ k = 4 ∨ k = 5 ∨ k = 6 ∨ k = 7 ∨ k = 8 := by omega
  rcases this with rfl | rfl | rfl | rfl | rfl | rfl | rfl | rfl | rfl
  case inr.inr.inr.inr.inr.inl =>
    have hm : (i : Int) < m.t * m.l := h2
    have hp : (p : Int) < 2 := h3
    obtain ⟨L, hL⟩ : ∃ L : Nat, m.l = L := ⟨m.l.toNat, by omega⟩
    rw [hL] at hm hl4 ⊢
    rw [Int.toNat_natCast]
    have hL0 : 0 < L := by
      rcases Nat.eq_zero_or_pos L with q | q
      · subst q; simp at hm; omega
      · exact q
    refine mem _ _ ?_ ?_ (by show p < 2; omega)
    · show (if 5 = 5 then i / L else i) < 4
      rw [if_pos rfl]
      refine (Nat.div_lt_iff_lt_mul hL0).2 ?_
      have : m.t * (L : Int) ≤ 4 * L := Int.mul_le_mul_of_nonneg_right ht4 (by omega)
      omega
    · show (if 5 = 5 then i % L else 0) < 4
      rw [if_pos rfl]
      have := Nat.mod_lt i hL0
      omega
  all_goals
    refine mem _ _ ?_ ?_ ?_ <;> simp [PM.many, PM.each] at h2 h3 ⊢ <;> omega

theorem inUni_inj {L k i p k' i' p' : Nat} (h : inUni L k i p = inUni L k' i' p') : k = k' ∧ i = i' ∧ p = p' := by
  unfold inUni at h
  simp only [Prod.mk.injEq] at h
  obtain ⟨rfl, h1, h2, rfl⟩ := h
  refine ⟨rfl, ?_, rfl⟩
  by_cases h5 : k = 5
  · subst h5
    simp only [if_true] at h1 h2
    rw [← Nat.div_add_mod i L, ← Nat.div_add_mod i' L, h1, h2]
  · simpa [h5] using h1

/-- What the word at a is called. -/
noncomputable def PM.name (m : PM) (a : Int) : List UInt8 :=
  open Classical in if h : m.Ok ∧ ∃ x : Nat × Nat × Nat, m.Has x.1 x.2.1 x.2.2 ∧ m.loc x.1 x.2.1 x.2.2 = a then nameL m.l.toNat h.2.choose.1 h.2.choose.2.1 h.2.choose.2.2 else []

theorem PM.name_in {m : PM} (h : m.Ok) {a : Int} (h0 : 0 ≤ a) (h1 : a < m.size) : ∃ k i p, m.Has k i p ∧ m.loc k i p = a ∧ m.name a = nameL m.l.toNat k i p := by
  obtain ⟨k, i, p, hh, hl⟩ := m.loc_all h h0 h1
  have hx : m.Ok ∧ ∃ x : Nat × Nat × Nat, m.Has x.1 x.2.1 x.2.2 ∧ m.loc x.1 x.2.1 x.2.2 = a := ⟨h, (k, i, p), hh, hl⟩
  refine ⟨hx.2.choose.1, hx.2.choose.2.1, hx.2.choose.2.2, hx.2.choose_spec.1, hx.2.choose_spec.2, ?_⟩
  unfold PM.name
  rw [dif_pos hx]
theorem PM.name_out {m : PM} {a : Int} (h : ¬ m.Ok ∨ a < 0 ∨ m.size ≤ a) : m.name a = [] := by
  unfold PM.name
  rw [dif_neg]
  rintro ⟨ho, ⟨k, i, p⟩, hh, hl⟩
  have hr := m.loc_range ho hh
  rw [hl] at hr
  rcases h with h | h
  · exact h ho
  · omega
theorem PM.name_inj {m : PM} (h : m.Ok) {a b : Int} (a0 : 0 ≤ a) (a1 : a < m.size) (b0 : 0 ≤ b) (b1 : b < m.size) (he : m.name a = m.name b) : a = b := by
  obtain ⟨k, i, p, hh, hl, hn⟩ := m.name_in h a0 a1
  obtain ⟨k', i', p', hh', hl', hn'⟩ := m.name_in h b0 b1
  rw [hn, hn', nameL_uni, nameL_uni] at he
  obtain ⟨rfl, rfl, rfl⟩ := inUni_inj (uni_inj (has_uni h hh) (has_uni h hh') he)
  rw [← hl, ← hl']
theorem PM.name_full {m : PM} (h : m.Ok) {a : Int} (a0 : 0 ≤ a) (a1 : a < m.size) : m.name a ≠ [] ∧ (m.name a).length ≤ 20 := by
  obtain ⟨k, i, p, hh, hl, hn⟩ := m.name_in h a0 a1
  have := List.all_eq_true.1 uni_full _ (has_uni h hh)
  rw [hn, nameL_uni]
  simp only [Bool.and_eq_true, decide_eq_true_eq, Bool.not_eq_true'] at this
  exact ⟨fun e => by rw [e] at this; simp at this, this.2⟩

/-- place.Name, whatever is asked. -/
theorem Name_any (m : PM) (a : Int) (w : World) :
    Calls Tryd.prog 37 #[m.v, .int .i64 a] w fun e w' => e = .returned (.string ⟨(m.name a).toArray⟩) ∧ Below w.heap.size w w' := by
  by_cases h : m.Ok ∧ 0 ≤ a ∧ a < m.size
  · obtain ⟨h1, h2, h3⟩ := h
    obtain ⟨k, i, p, hh, hl, hn⟩ := m.name_in h1 h2 h3
    rw [hn, ← hl]
    exact Name_at m k i p w h1 hh
  · have ho : ¬ m.Ok ∨ a < 0 ∨ m.size ≤ a := by
      by_cases h1 : m.Ok
      · by_cases h2 : 0 ≤ a
        · exact .inr (.inr (Int.not_lt.1 fun h3 => h ⟨h1, h2, h3⟩))
        · exact .inr (.inl (by omega))
      · exact .inl h1
    rw [PM.name_out ho]
    refine Name_out m a w (inB_no ?_)
    rcases ho with ho | ho
    · have : m.size = 0 := by simp [PM.size, ho]
      rw [this]
      omega
    · omega

end Go.Proofs.YtjekhjjighbfaaaDoor
