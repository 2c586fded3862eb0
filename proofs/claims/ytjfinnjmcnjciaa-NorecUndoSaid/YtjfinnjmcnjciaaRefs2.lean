/-
  The document's own places: Node, Size, Hash; a number's digits.
-/
import Derived.Test.YtjfinnjmcnjciaaRefs
namespace Go.Proofs.Ytjfinnjmcnjciaa
open Go.RowKit

theorem is_Node {m : PM} (h : m.Ok) (a b p : Int) {r : Int} (hf : FindIs m [6, a, b, p] r) : r = m.node a b p := by
  by_cases hr : 0 ≤ a ∧ a < m.t ∧ 0 ≤ b ∧ b < m.l ∧ 0 ≤ p ∧ p < 2
  · obtain ⟨h1, h2, h3, h4, h5, h6⟩ := hr
    have hb := node_bounds h h1 h2 h3 h4
    have hL : 0 < m.l.toNat := by omega
    have el : ((m.l.toNat : Nat) : Int) = m.l := by omega
    have ea : ((a.toNat : Nat) : Int) = a := by omega
    have eb : ((b.toNat : Nat) : Int) = b := by omega
    have ep : ((p.toNat : Nat) : Int) = p := by omega
    have ei : ((a.toNat * m.l.toNat + b.toNat : Nat) : Int) = a * m.l + b := by rw [Int.natCast_add, Int.natCast_mul, el, ea, eb]
    have hq1 : (a.toNat * m.l.toNat + b.toNat) / m.l.toNat = a.toNat := by rw [Nat.mul_comm, Nat.mul_add_div hL, Nat.div_eq_of_lt (by omega), Nat.add_zero]
    have hq2 : (a.toNat * m.l.toNat + b.toNat) % m.l.toNat = b.toNat := by rw [Nat.mul_comm, Nat.mul_add_mod, Nat.mod_eq_of_lt (by omega)]
    have hh : m.Has 5 (a.toNat * m.l.toNat + b.toNat) p.toNat := ⟨by decide, by rw [ei]; exact hb.2.2.1, by simp only [PM.each]; omega⟩
    have e := findIs_in h hh (by simp only [tupL, hq1, hq2, ea, eb, ep]) hf
    rw [e]
    unfold PM.loc PM.node
    rw [if_pos ⟨h, h1, h2, h3, h4, h5, h6⟩, ei, ep]
    rfl
  · have e : m.node a b p = -1 := by
      unfold PM.node
      rw [if_neg]
      rintro ⟨_, q⟩
      exact hr q
    rw [e]
    refine findIs_out h (fun k i' p' hh he => hr ?_) hf
    have hk := hh.kind
    have h2 := hh.many
    have h3 := hh.part
    have hc : k = 0 ∨ k = 1 ∨ k = 2 ∨ k = 3 ∨ k = 4 ∨ k = 5 ∨ k = 6 ∨ k = 7 ∨ k = 8 := by omega
    rcases hc with rfl | rfl | rfl | rfl | rfl | rfl | rfl | rfl | rfl <;> simp only [tupL] at he
    case inr.inr.inr.inr.inr.inl =>
      simp only [List.cons.injEq, and_true, true_and] at he
      obtain ⟨e1, e2, e3⟩ := he
      have hm : (i' : Int) < m.t * m.l := h2
      have hl1 := h.l1
      have hp : (p' : Int) < 2 := h3
      have hL : 0 < m.l.toNat := by
        rcases Nat.eq_zero_or_pos m.l.toNat with q | q
        · have : m.l = 0 := by omega
          rw [this] at hm
          omega
        · exact q
      have el : ((m.l.toNat : Nat) : Int) = m.l := by omega
      have et : ((m.t.toNat : Nat) : Int) = m.t := by have := h.t1; omega
      have hm2 : i' < m.t.toNat * m.l.toNat := by
        have : ((m.t.toNat * m.l.toNat : Nat) : Int) = m.t * m.l := by rw [Int.natCast_mul, el, et]
        omega
      have d1 : i' / m.l.toNat < m.t.toNat := (Nat.div_lt_iff_lt_mul hL).2 hm2
      have d2 := Nat.mod_lt i' hL
      rw [← e1, ← e2, ← e3]
      refine ⟨Int.natCast_nonneg _, ?_, Int.natCast_nonneg _, ?_, Int.natCast_nonneg _, hp⟩
      · rw [← et]; exact Int.ofNat_lt.2 d1
      · rw [← el]; exact Int.ofNat_lt.2 d2
    all_goals first
      | (simp at he; done)
      | (split at he <;> simp at he <;> done)

set_option maxHeartbeats 1000000 in
theorem refSize_any (m : PM) (w : World) :
    Calls Try.prog 58 #[m.v] w fun e w' => e = .returned (.int .i64 m.size) ∧ Below w.heap.size w w' := by
  by_cases h : m.Ok
  · have HP := hid (fun W => places_any m W h)
    obtain ⟨z1, z2⟩ := m.size_bounds h
    have HSZ : Hid (m.size = ((m.size.toNat : Nat) : Int)) := hid (by omega)
    generalize hA : m.size.toNat = A at *
    clear hA h
    generalize m.size = z at *
    obtain ⟨s, l, t, c, d⟩ := m
    show Calls _ _ #[.agg #[.int .i64 s, .int .i64 l, .int .i64 t, .int .i64 c, .int .i64 d]] _ _
    go_enter Try.func58, Try.ntmps58
    go_wp2_with (go_at_call 96; refine (HP.out _).mono ?_; rintro e w1 ⟨⟨g, cap, rfl, hr⟩, hb1⟩; have HR := hid hr; have HB1 := hid hb1; clear hr hb1)
    go_ret
    exact ⟨by rw [HSZ.out]; rfl, bthen (bnew (bid w) _) HB1.out⟩
  · have e : m.size = 0 := by simp [PM.size, h]
    have HP := hid (fun W => places_no m W h)
    rw [e]
    clear h e
    obtain ⟨s, l, t, c, d⟩ := m
    show Calls _ _ #[.agg #[.int .i64 s, .int .i64 l, .int .i64 t, .int .i64 c, .int .i64 d]] _ _
    go_enter Try.func58, Try.ntmps58
    go_wp2_with (go_at_call 96; refine (HP.out _).mono ?_; rintro e w1 ⟨rfl, hb1⟩)
    go_ret
    exact ⟨rfl, bthen (bnew (bid w) _) hb1⟩

theorem PM.hash_no {m : PM} (a : Int) (h : ¬ m.Ok ∨ a < 0 ∨ m.size ≤ a) : m.hash a = -1 := by
  unfold PM.hash
  rw [if_neg]
  rintro ⟨h1, h2, h3⟩
  rcases h with h | h
  · exact h h1
  · omega

end Go.Proofs.Ytjfinnjmcnjciaa
