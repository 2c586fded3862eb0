/-
  Plain facts on words and bumps.
-/
import Derived.Test.YtkfajeimfpbfdaaTold11
namespace Go.Proofs.Ytkfajeimfpbfdaa
open Go.RowKit

theorem wrap_near {x : Int} (h0 : -4000000000000000000 ≤ x) (h1 : x ≤ 4000000000000000000) : wrap64 x = x := by
  unfold wrap64
  omega
section
variable {s : MS}
theorem vAt_loaded (s : MS) (p q : Int) : (s.loaded p).vAt q = s.vAt q := by
  unfold MS.loaded
  split <;> rfl
theorem vAt_of {p : Int} (h : s.has p) : s.vAt p = s.zs.getD p.toNat 0 := by simp only [MS.vAt, if_pos h]
theorem has_len {s' : MS} {p : Int} (h : s.has p) (he : s'.zs.length = s.zs.length) : s'.has p := ⟨h.1, by rw [he]; exact h.2⟩
theorem getD_set_same {l : List Int} {p : Nat} {v : Int} (h : p < l.length) : (l.set p v).getD p 0 = v := by simp [h]
theorem vAt_stored {p : Int} (h : s.has p) (v : Int) : (s.stored p v).vAt p = v := by
  rw [vAt_of (has_len h (len_stored _ _ _))]
  simp only [MS.stored, if_pos h, MS.acc, MS.put]
  exact getD_set_same (by have := h.1; have := h.2; omega)
theorem vAt_added {p : Int} (h : s.has p) (v : Int) : (s.added p v).vAt p = wrap64 (s.vAt p + v) := by
  rw [vAt_of (has_len h (len_added _ _ _)), vAt_of h]
  simp only [MS.added, if_pos h, MS.acc, MS.put]
  exact getD_set_same (by have := h.1; have := h.2; omega)
theorem okAt_yes {p : Int} (h : s.has p) {o : Int} (ho : s.vAt p = o) : s.okAt p o = true := by
  rw [vAt_of h] at ho
  simp only [MS.okAt, h, ho, and_self, decide_true]
theorem okAt_no {p : Int} {o : Int} (h : s.has p) (ho : s.vAt p ≠ o) : s.okAt p o = false := by
  rw [vAt_of h] at ho
  simp only [MS.okAt, ho, and_false, decide_false]
theorem vAt_swap_yes {p : Int} (h : s.has p) {o v : Int} (ho : s.vAt p = o) : (s.swapped p o v).vAt p = v := by
  rw [vAt_of (has_len h (len_swapped _ _ _ _))]
  rw [vAt_of h] at ho
  simp only [MS.swapped, if_pos h, if_pos ho, MS.acc, MS.put]
  exact getD_set_same (by have := h.1; have := h.2; omega)
theorem vAt_swap_no {p : Int} (h : s.has p) {o v : Int} (ho : s.vAt p ≠ o) : (s.swapped p o v).vAt p = s.vAt p := by
  rw [vAt_of (has_len h (len_swapped _ _ _ _)), vAt_of h]
  rw [vAt_of h] at ho
  simp only [MS.swapped, if_pos h, if_neg ho, MS.acc]
theorem has48 (hz : s.zs.length = 48) (p : Nat) (hp : p < 48) : s.has (p : Int) := ⟨by omega, by omega⟩
end
/-- The steps of a bump, by its Kind and State. -/
theorem own0 {s : MS} {x p : Int} : bumpF mp4 s ⟨1, 0, x, p⟩ = (⟨1, 9, x, wrap64 (s.vAt 0 + 1)⟩, s.added 0 1) := by
  unfold bumpF drawF
  rw [if_pos mp4_ok, clock0]
  rfl
theorem join0 {s : MS} {x p : Int} : bumpF mp4 s ⟨2, 0, x, p⟩ = (⟨2, 1, s.vAt 0, p⟩, s.loaded 0) := by
  unfold bumpF midF lookF
  rw [if_pos mp4_ok, clock0]
  simp
theorem join1y {s : MS} {x p : Int} (hz : s.zs.length = 48) (h : s.vAt 0 = x) : bumpF mp4 s ⟨2, 1, x, p⟩ = (⟨2, 9, x, wrap64 (x + 1)⟩, s.swapped 0 x (wrap64 (x + 1))) := by
  unfold bumpF midF putF
  have e : s.okAt 0 x = true := okAt_yes (has48 hz 0 (by omega)) h
  rw [if_pos mp4_ok, clock0]
  simp [e]
theorem join1n {s : MS} {x p : Int} (hz : s.zs.length = 48) (h : s.vAt 0 ≠ x) : bumpF mp4 s ⟨2, 1, x, p⟩ = (⟨2, 9, x, s.vAt 0⟩, s.swapped 0 x (wrap64 (x + 1))) := by
  unfold bumpF midF putF
  have e : s.okAt 0 x = false := okAt_no (has48 hz 0 (by omega)) h
  rw [if_pos mp4_ok, clock0]
  simp [e]
theorem even0o {s : MS} {x p : Int} (h : s.vAt 1 % 2 = 1) : bumpF mp4 s ⟨3, 0, x, p⟩ = (⟨3, 0, x, p⟩, s.loaded 1) := by
  unfold bumpF midF lookF
  rw [if_pos mp4_ok, seq1]
  simp [h]
theorem even0 {s : MS} {x p : Int} (h : s.vAt 1 % 2 = 0) : bumpF mp4 s ⟨3, 0, x, p⟩ = (⟨3, 1, s.vAt 1, p⟩, s.loaded 1) := by
  unfold bumpF midF lookF
  rw [if_pos mp4_ok, seq1]
  simp [h]
theorem even1y {s : MS} {x p : Int} (hz : s.zs.length = 48) (h : s.vAt 1 = x) : bumpF mp4 s ⟨3, 1, x, p⟩ = (⟨3, 9, x, wrap64 (x + 2)⟩, s.swapped 1 x (wrap64 (x + 2))) := by
  unfold bumpF midF putF
  have e : s.okAt 1 x = true := okAt_yes (has48 hz 1 (by omega)) h
  rw [if_pos mp4_ok, seq1]
  simp [e]
theorem even1n {s : MS} {x p : Int} (hz : s.zs.length = 48) (h : s.vAt 1 ≠ x) : bumpF mp4 s ⟨3, 1, x, p⟩ = (⟨3, 0, 0, p⟩, s.swapped 1 x (wrap64 (x + 2))) := by
  unfold bumpF midF putF
  have e : s.okAt 1 x = false := okAt_no (has48 hz 1 (by omega)) h
  rw [if_pos mp4_ok, seq1]
  simp [e]
theorem u64_from0 (n : Int) : 0 ≤ IntKind.u64.wrap n := by
  rw [IntKind.wrap_u64]
  omega
theorem pick_ofN (N : Int) (h0 : 0 < N) (h1 : N ≤ 1000000000000) (z : Int) : ∃ k : Nat, (k : Int) < N ∧ wrap64 ((IntKind.u64.wrap z).tmod N) = (k : Int) := by
  have h := u64_from0 z
  generalize IntKind.u64.wrap z = u at *
  have e : u.tmod N = u % N := Int.tmod_eq_emod_of_nonneg h
  have a0 : 0 ≤ u % N := Int.emod_nonneg _ (by omega)
  have a1 : u % N < N := Int.emod_lt_of_pos _ h0
  rw [e, wrap_near (by omega) (by omega)]
  exact ⟨(u % N).toNat, by omega, by omega⟩
/-- Behind the waiting: the word is even, one looks, and puts. -/
theorem after_wait {s : MS} (hz : s.zs.length = 48) {od : Int} (h0 : 0 ≤ od) (h1 : od ≤ 2000000000000) (ho : od % 2 = 1) :
    (bumpF mp4 (s.stored 1 (od + 1)) ⟨3, 0, 0, 0⟩).1 = ⟨3, 1, od + 1, 0⟩ ∧
    (bumpF mp4 (bumpF mp4 (s.stored 1 (od + 1)) ⟨3, 0, 0, 0⟩).2 ⟨3, 1, od + 1, 0⟩).1 = ⟨3, 9, od + 1, od + 3⟩ ∧
    (bumpF mp4 (bumpF mp4 (s.stored 1 (od + 1)) ⟨3, 0, 0, 0⟩).2 ⟨3, 1, od + 1, 0⟩).2.vAt 1 = od + 3 := by
  have hv : (s.stored 1 (od + 1)).vAt 1 = od + 1 := vAt_stored (has48 hz 1 (by omega)) _
  have hl : (s.stored 1 (od + 1)).zs.length = 48 := by rw [len_stored]; exact hz
  have e1 := even0 (s := s.stored 1 (od + 1)) (x := 0) (p := 0) (by rw [hv]; omega)
  have hl2 : ((s.stored 1 (od + 1)).loaded 1).zs.length = 48 := by rw [len_loaded]; exact hl
  have hv2 : ((s.stored 1 (od + 1)).loaded 1).vAt 1 = od + 1 := by rw [vAt_loaded]; exact hv
  have e2 := even1y (p := 0) hl2 hv2
  have hw : wrap64 (od + 1 + 2) = od + 3 := by rw [wrap_near (by omega) (by omega)]; omega
  rw [e1, hv]
  refine ⟨rfl, ?_, ?_⟩
  · show (bumpF mp4 ((s.stored 1 (od + 1)).loaded 1) ⟨3, 1, od + 1, 0⟩).1 = _
    rw [e2, hw]
  · show (bumpF mp4 ((s.stored 1 (od + 1)).loaded 1) ⟨3, 1, od + 1, 0⟩).2.vAt 1 = _
    rw [e2]
    show (((s.stored 1 (od + 1)).loaded 1).swapped 1 (od + 1) (wrap64 (od + 1 + 2))).vAt 1 = _
    rw [hw]
    exact vAt_swap_yes (has48 hl2 1 (by omega)) hv2

end Go.Proofs.Ytkfajeimfpbfdaa
