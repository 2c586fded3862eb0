/-
  What stands at a place, as the document tells it: four numbers; each place has its own.
-/
import Derived.Test.YtjfinnjmcnjciaaPLoc
namespace Go.Proofs.Ytjfinnjmcnjciaa
open Go.RowKit

/-- What the word is: kind, which, which, part. -/
def tupL (L k i p : Nat) : List Int :=
  match k with
  | 0 => [1, 0, 0, 0]
  | 1 => [2, 0, 0, 0]
  | 2 => [3, i, 0, 0]
  | 3 => [4, i, 0, p]
  | 4 => [5, i, 0, p]
  | 5 => [6, ((i / L : Nat) : Int), ((i % L : Nat) : Int), p]
  | 6 => [7, i, 0, 0]
  | 7 => [8, i, 0, p]
  | _ => if p = 0 then [9, i, 0, 0] else [10, i, 0, 0]
theorem tupL_len (L k i p : Nat) : (tupL L k i p).length = 4 := by
  unfold tupL
  split <;> first | rfl | (split <;> rfl)

theorem loc_inj {m : PM} (h : m.Ok) {k i p k' i' p' : Nat} (hh : m.Has k i p) (hh' : m.Has k' i' p') (he : m.loc k i p = m.loc k' i' p') : k = k' ∧ i = i' ∧ p = p' := by
  have hk : k' = k := by
    refine m.kind_one h hh ⟨hh'.kind, ?_, ?_⟩
    · rw [he]; exact (m.loc_range h hh').1
    · rcases Nat.lt_or_ge k' 8 with h8 | h8
      · right
        rw [he, m.from_next k' h8]
        exact (m.loc_range h hh').2.1
      · left
        have := hh'.kind
        omega
  subst hk
  have h3 := hh.part
  have h3' := hh'.part
  unfold PM.loc at he
  rcases PM.each_is k' hh.kind with e | e | e <;> rw [e] at h3 h3' he <;> refine ⟨rfl, ?_, ?_⟩ <;> omega

/-- What stands at a. -/
noncomputable def PM.tup (m : PM) (a : Int) : List Int :=
  open Classical in if h : m.Ok ∧ ∃ x : Nat × Nat × Nat, m.Has x.1 x.2.1 x.2.2 ∧ m.loc x.1 x.2.1 x.2.2 = a then tupL m.l.toNat h.2.choose.1 h.2.choose.2.1 h.2.choose.2.2 else [0, 0, 0, 0]

theorem PM.tup_at {m : PM} (h : m.Ok) {k i p : Nat} (hh : m.Has k i p) : m.tup (m.loc k i p) = tupL m.l.toNat k i p := by
  have hx : m.Ok ∧ ∃ x : Nat × Nat × Nat, m.Has x.1 x.2.1 x.2.2 ∧ m.loc x.1 x.2.1 x.2.2 = m.loc k i p := ⟨h, (k, i, p), hh, rfl⟩
  unfold PM.tup
  rw [dif_pos hx]
  obtain ⟨e1, e2, e3⟩ := loc_inj h hx.2.choose_spec.1 hh hx.2.choose_spec.2
  rw [e1, e2, e3]
theorem PM.tup_len (m : PM) (a : Int) : (m.tup a).length = 4 := by
  unfold PM.tup
  split
  · exact tupL_len _ _ _ _
  · rfl
theorem PM.tup_of {m : PM} (h : m.Ok) {a : Int} (h0 : 0 ≤ a) (h1 : a < m.size) : ∃ k i p, m.Has k i p ∧ m.loc k i p = a ∧ m.tup a = tupL m.l.toNat k i p := by
  obtain ⟨k, i, p, hh, hl⟩ := m.loc_all h h0 h1
  exact ⟨k, i, p, hh, hl, by rw [← hl]; exact m.tup_at h hh⟩

/-- The index of the first place that is q; -1. -/
def FindIs (m : PM) (q : List Int) (r : Int) : Prop := (∃ n : Nat, r = n ∧ (n : Int) < m.size ∧ m.tup n = q) ∨ (r = -1 ∧ ∀ n : Nat, (n : Int) < m.size → m.tup n ≠ q)

theorem tupL_inj {L k i p k' i' p' : Nat} (hk : k < 9) (hk' : k' < 9) (p8 : k = 8 → p < 2) (p8' : k' = 8 → p' < 2) (he : tupL L k i p = tupL L k' i' p') (hz : k = 0 ∨ k = 1 → i = 0) (hz' : k' = 0 ∨ k' = 1 → i' = 0)
    (hp : k = 0 ∨ k = 1 ∨ k = 2 ∨ k = 6 → p = 0) (hp' : k' = 0 ∨ k' = 1 ∨ k' = 2 ∨ k' = 6 → p' = 0) : k = k' ∧ i = i' ∧ p = p' := by
  have c : k = 0 ∨ k = 1 ∨ k = 2 ∨ k = 3 ∨ k = 4 ∨ k = 5 ∨ k = 6 ∨ k = 7 ∨ k = 8 := by omega
  have c' : k' = 0 ∨ k' = 1 ∨ k' = 2 ∨ k' = 3 ∨ k' = 4 ∨ k' = 5 ∨ k' = 6 ∨ k' = 7 ∨ k' = 8 := by omega
  rcases c with rfl | rfl | rfl | rfl | rfl | rfl | rfl | rfl | rfl <;> rcases c' with rfl | rfl | rfl | rfl | rfl | rfl | rfl | rfl | rfl
  all_goals simp only [tupL] at he
  all_goals first
    | (simp at he; done)
    | (split at he <;> simp at he <;> done)
    | (simp at he hz hz' hp hp'; omega)
    | (simp only [List.cons.injEq, and_true, true_and] at he
       obtain ⟨e1, e2, e3⟩ := he
       have e4 : i / L = i' / L := by exact_mod_cast e1
       have e5 : i % L = i' % L := by exact_mod_cast e2
       refine ⟨rfl, ?_, by omega⟩
       rw [← Nat.div_add_mod i L, ← Nat.div_add_mod i' L, e4, e5])
    | (have a := p8 rfl
       have b := p8' rfl
       split at he <;> split at he <;> simp at he <;> omega)
    | skip

end Go.Proofs.Ytjfinnjmcnjciaa
