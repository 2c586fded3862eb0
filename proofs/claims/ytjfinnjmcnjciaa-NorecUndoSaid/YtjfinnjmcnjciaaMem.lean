/-
  THE CONTRACTS OF package mem, each call on a memory that lies as 'IsMem' says: what it answers, what the memory holds behind it, and that outside its own blocks nothing has turned.
-/
import Derived.Test.YtjfinnjmcnjciaaBase
namespace Go.Proofs.Ytjfinnjmcnjciaa
open Go.RowKit

abbrev Mem (w : World) (B b : Nat) (vw : Value) (s : MS) : Prop := IsMem 106 2 w B b vw s

set_option maxHeartbeats 400000 in
theorem refusal_nil (a : Int) (w : World) :
    Calls Try.prog 67 #[.pointer none, .int .i64 a] w fun e w' => e = .returned (.int .i64 10) ∧ w = w' := by
  go_enter Try.func67, Try.ntmps67
  go_wp2
  go_ret
  exact ⟨rfl, rfl⟩

set_option maxHeartbeats 400000 in
theorem refusal_out (a : Int) (w : World) (B b : Nat) (vw : Value) (s : MS) (h : Mem w B b vw s) (ho : a < 0 ∨ (s.zs.length : Int) ≤ a) :
    Calls Try.prog 67 #[.pointer (some ⟨b, 0, none⟩), .int .i64 a] w fun e w' => e = .returned (.int .i64 2) ∧ w = w' := by
  obtain ⟨ad, cap, rfl, hmx, _, _⟩ := h.shape
  obtain ⟨⟨c0, _⟩, _⟩ := h.facts
  clear h
  unfold maxLen at hmx
  rcases ho with ho | ho
  · go_enter Try.func67, Try.ntmps67
    go_wp2
    go_ret
    exact ⟨rfl, rfl⟩
  · have h0 : ¬ a < 0 := by omega
    go_enter Try.func67, Try.ntmps67
    go_wp2
    go_ret
    exact ⟨rfl, rfl⟩

set_option maxHeartbeats 400000 in
theorem refusal_in (a : Int) (w : World) (B b : Nat) (vw : Value) (s : MS) (h : Mem w B b vw s) (h0 : 0 ≤ a) (h1 : a < (s.zs.length : Int)) :
    Calls Try.prog 67 #[.pointer (some ⟨b, 0, none⟩), .int .i64 a] w fun e w' => e = .returned (.int .i64 0) ∧ w = w' := by
  obtain ⟨ad, cap, rfl, hmx, _, _⟩ := h.shape
  obtain ⟨⟨c0, _⟩, _⟩ := h.facts
  clear h
  unfold maxLen at hmx
  go_enter Try.func67, Try.ntmps67
  go_wp2
  go_ret
  exact ⟨rfl, rfl⟩

set_option maxHeartbeats 400000 in
theorem count_any (k a v o : Int) (d : Bool) (w : World) (B b : Nat) (vw : Value) (s : MS) (h : Mem w B b vw s) :
    Calls Try.prog 80 #[.pointer (some ⟨b, 0, none⟩), .agg #[.int .i64 k, .int .i64 a, .int .i64 v, .int .i64 o, .bool d]] w fun e w' => e = .returned (.tuple #[]) ∧
      Mem w' B b vw (s.acc k a v o d) ∧ Wrote (fun k => k = b) w w' := by
  have hlt := h.lt
  have H := hid h
  obtain ⟨⟨_, c1, c2, c3, c4, c5, c6⟩, hf⟩ := h.facts
  have f1 := hf 1; have f2 := hf 2; have f3 := hf 3; have f4 := hf 4; have f5 := hf 5; have f6 := hf 6
  clear h hf
  go_enter Try.func80, Try.ntmps80
  go_wp2
  go_end0
  exact ⟨rfl, H.out.counted k a v o d _⟩

/-! ### Load -/
set_option maxHeartbeats 400000 in
theorem Load_nil (a : Int) (w : World) :
    Calls Try.prog 107 #[.pointer none, .int .i64 a] w fun e w' => e = .returned (.tuple #[.int .i64 0, .int .i64 10]) ∧ w = w' := by
  go_enter Try.func107, Try.ntmps107
  go_wp2_with (go_at_call 67; refine (refusal_nil _ _).mono ?_; rintro e w' ⟨rfl, rfl⟩)
  go_ret2
  exact ⟨rfl, rfl⟩

set_option maxHeartbeats 400000 in
theorem Load_out (a : Int) (w : World) (B b : Nat) (vw : Value) (s : MS) (h : Mem w B b vw s) (ho : a < 0 ∨ (s.zs.length : Int) ≤ a) :
    Calls Try.prog 107 #[.pointer (some ⟨b, 0, none⟩), .int .i64 a] w fun e w' => e = .returned (.tuple #[.int .i64 0, .int .i64 2]) ∧ w = w' := by
  have H := hid h; clear h
  have Ho := hid ho; clear ho
  go_enter Try.func107, Try.ntmps107
  go_wp2_with (go_at_call 67; refine (refusal_out _ _ _ _ _ _ H.out Ho.out).mono ?_; rintro e w' ⟨rfl, rfl⟩)
  go_ret2
  exact ⟨rfl, rfl⟩

set_option maxHeartbeats 400000 in
theorem Load_in (a : Int) (w : World) (B b : Nat) (vw : Value) (s : MS) (h : Mem w B b vw s) (h0 : 0 ≤ a) (h1 : a < (s.zs.length : Int)) :
    Calls Try.prog 107 #[.pointer (some ⟨b, 0, none⟩), .int .i64 a] w fun e w' => e = .returned (.tuple #[.int .i64 (s.zs.getD a.toNat 0), .int .i64 0]) ∧
      Mem w' B b vw (s.acc 1 a (s.zs.getD a.toNat 0) (s.zs.getD a.toNat 0) true) ∧ Wrote (MemS b vw) w w' := by
  have hlt := h.lt
  have H := hid h
  obtain ⟨⟨c0, _⟩, _⟩ := h.facts
  obtain ⟨g, cap, hv, _, hg, hne, ci, _⟩ := h.word (i := a.toNat) (by omega)
  obtain ⟨_, _, _, hmx, _, _⟩ := h.shape
  unfold maxLen at hmx
  generalize hz : s.zs.getD a.toNat 0 = z at ci ⊢
  have Hz := hid hz
  rw [hv] at c0
  clear h hv hz
  go_enter Try.func107, Try.ntmps107
  go_wp2_with (first | (go_at_call 67; refine (refusal_in _ _ _ _ _ _ H.out h0 h1).mono ?_; rintro e w' ⟨rfl, rfl⟩) | (go_at_call 80; refine (count_any _ _ _ _ _ _ _ _ _ _ H.out).mono ?_; rintro e w' ⟨rfl, hm, hw⟩))
  go_ret2
  exact ⟨rfl, hm, hw.mono fun _ _ h => .inl h⟩

/-! ### Store -/
set_option maxHeartbeats 400000 in
theorem Store_nil (a v : Int) (w : World) :
    Calls Try.prog 34 #[.pointer none, .int .i64 a, .int .i64 v] w fun e w' => e = .returned (.int .i64 10) ∧ w = w' := by
  go_enter Try.func34, Try.ntmps34
  go_wp2_with (go_at_call 67; refine (refusal_nil _ _).mono ?_; rintro e w' ⟨rfl, rfl⟩)
  go_ret
  exact ⟨rfl, rfl⟩

set_option maxHeartbeats 400000 in
theorem Store_out (a v : Int) (w : World) (B b : Nat) (vw : Value) (s : MS) (h : Mem w B b vw s) (ho : a < 0 ∨ (s.zs.length : Int) ≤ a) :
    Calls Try.prog 34 #[.pointer (some ⟨b, 0, none⟩), .int .i64 a, .int .i64 v] w fun e w' => e = .returned (.int .i64 2) ∧ w = w' := by
  have H := hid h; clear h
  have Ho := hid ho; clear ho
  go_enter Try.func34, Try.ntmps34
  go_wp2_with (go_at_call 67; refine (refusal_out _ _ _ _ _ _ H.out Ho.out).mono ?_; rintro e w' ⟨rfl, rfl⟩)
  go_ret
  exact ⟨rfl, rfl⟩

set_option maxHeartbeats 400000 in
theorem Store_in (a v : Int) (w : World) (B b : Nat) (vw : Value) (s : MS) (h : Mem w B b vw s) (h0 : 0 ≤ a) (h1 : a < (s.zs.length : Int)) :
    Calls Try.prog 34 #[.pointer (some ⟨b, 0, none⟩), .int .i64 a, .int .i64 v] w fun e w' => e = .returned (.int .i64 0) ∧
      Mem w' B b vw ((s.put a.toNat v).acc 2 a v (s.zs.getD a.toNat 0) true) ∧ Wrote (MemS b vw) w w' := by
  have hlt := h.lt
  have H := hid h
  obtain ⟨⟨c0, _⟩, _⟩ := h.facts
  obtain ⟨g, cap, hv, _, hg, hne, ci, fi⟩ := h.word (i := a.toNat) (by omega)
  obtain ⟨_, _, _, hmx, _, _⟩ := h.shape
  unfold maxLen at hmx
  generalize hz : s.zs.getD a.toNat 0 = z at ci ⊢
  have Hz := hid hz
  have Hv := hid hv
  rw [hv] at c0
  clear h hv hz
  go_enter Try.func34, Try.ntmps34
  go_wp2_with (first | (go_at_call 67; refine (refusal_in _ _ _ _ _ _ H.out h0 h1).mono ?_; rintro e w' ⟨rfl, rfl⟩) | (go_at_call 80; refine (count_any _ _ _ _ _ _ _ _ _ _ (H.out.store Hv.out _ _)).mono ?_; rintro e w' ⟨rfl, hm, hw⟩))
  go_ret
  exact ⟨rfl, hm, (Wrote.setCell (Wrote.refl _ w) (p := ⟨g, a.toNat, none⟩) (by intro _; exact .inr (by simp [Hv.out, Value.ownBlock])) _).then hw fun _ _ h => .inl h⟩

/-! ### Add -/
set_option maxHeartbeats 400000 in
theorem Add_nil (a v : Int) (w : World) :
    Calls Try.prog 150 #[.pointer none, .int .i64 a, .int .i64 v] w fun e w' => e = .returned (.tuple #[.int .i64 0, .int .i64 10]) ∧ w = w' := by
  go_enter Try.func150, Try.ntmps150
  go_wp2_with (go_at_call 67; refine (refusal_nil _ _).mono ?_; rintro e w' ⟨rfl, rfl⟩)
  go_ret2
  exact ⟨rfl, rfl⟩

set_option maxHeartbeats 400000 in
theorem Add_out (a v : Int) (w : World) (B b : Nat) (vw : Value) (s : MS) (h : Mem w B b vw s) (ho : a < 0 ∨ (s.zs.length : Int) ≤ a) :
    Calls Try.prog 150 #[.pointer (some ⟨b, 0, none⟩), .int .i64 a, .int .i64 v] w fun e w' => e = .returned (.tuple #[.int .i64 0, .int .i64 2]) ∧ w = w' := by
  have H := hid h; clear h
  have Ho := hid ho; clear ho
  go_enter Try.func150, Try.ntmps150
  go_wp2_with (go_at_call 67; refine (refusal_out _ _ _ _ _ _ H.out Ho.out).mono ?_; rintro e w' ⟨rfl, rfl⟩)
  go_ret2
  exact ⟨rfl, rfl⟩

set_option maxHeartbeats 400000 in
theorem Add_in (a v : Int) (w : World) (B b : Nat) (vw : Value) (s : MS) (h : Mem w B b vw s) (h0 : 0 ≤ a) (h1 : a < (s.zs.length : Int)) :
    Calls Try.prog 150 #[.pointer (some ⟨b, 0, none⟩), .int .i64 a, .int .i64 v] w fun e w' => e = .returned (.tuple #[.int .i64 (s.zs.getD a.toNat 0), .int .i64 0]) ∧
      Mem w' B b vw ((s.put a.toNat (wrap64 (s.zs.getD a.toNat 0 + v))).acc 4 a v (s.zs.getD a.toNat 0) true) ∧ Wrote (MemS b vw) w w' := by
  have hlt := h.lt
  have H := hid h
  obtain ⟨⟨c0, _⟩, _⟩ := h.facts
  obtain ⟨g, cap, hv, _, hg, hne, ci, fi⟩ := h.word (i := a.toNat) (by omega)
  obtain ⟨_, _, _, hmx, _, _⟩ := h.shape
  unfold maxLen at hmx
  generalize hz : s.zs.getD a.toNat 0 = z at ci ⊢
  have Hz := hid hz
  have Hv := hid hv
  rw [hv] at c0
  clear h hv hz
  go_enter Try.func150, Try.ntmps150
  go_wp2_with (first | (go_at_call 67; refine (refusal_in _ _ _ _ _ _ H.out h0 h1).mono ?_; rintro e w' ⟨rfl, rfl⟩) | (go_at_call 80; refine (count_any _ _ _ _ _ _ _ _ _ _ (H.out.store Hv.out _ _)).mono ?_; rintro e w' ⟨rfl, hm, hw⟩))
  go_ret2
  exact ⟨rfl, hm, (Wrote.setCell (Wrote.refl _ w) (p := ⟨g, a.toNat, none⟩) (by intro _; exact .inr (by simp [Hv.out, Value.ownBlock])) _).then hw fun _ _ h => .inl h⟩

/-! ### Swap -/
set_option maxHeartbeats 400000 in
theorem Swap_nil (a o v : Int) (w : World) :
    Calls Try.prog 136 #[.pointer none, .int .i64 a, .int .i64 o, .int .i64 v] w fun e w' => e = .returned (.tuple #[.int .i64 0, .bool false, .int .i64 10]) ∧ w = w' := by
  go_enter Try.func136, Try.ntmps136
  go_wp2_with (go_at_call 67; refine (refusal_nil _ _).mono ?_; rintro e w' ⟨rfl, rfl⟩)
  go_ret3
  exact ⟨rfl, rfl⟩

set_option maxHeartbeats 400000 in
theorem Swap_out (a o v : Int) (w : World) (B b : Nat) (vw : Value) (s : MS) (h : Mem w B b vw s) (ho : a < 0 ∨ (s.zs.length : Int) ≤ a) :
    Calls Try.prog 136 #[.pointer (some ⟨b, 0, none⟩), .int .i64 a, .int .i64 o, .int .i64 v] w fun e w' => e = .returned (.tuple #[.int .i64 0, .bool false, .int .i64 2]) ∧ w = w' := by
  have H := hid h; clear h
  have Ho := hid ho; clear ho
  go_enter Try.func136, Try.ntmps136
  go_wp2_with (go_at_call 67; refine (refusal_out _ _ _ _ _ _ H.out Ho.out).mono ?_; rintro e w' ⟨rfl, rfl⟩)
  go_ret3
  exact ⟨rfl, rfl⟩

set_option maxHeartbeats 400000 in
theorem Swap_no (a o v : Int) (w : World) (B b : Nat) (vw : Value) (s : MS) (h : Mem w B b vw s) (h0 : 0 ≤ a) (h1 : a < (s.zs.length : Int)) (hn : s.zs.getD a.toNat 0 ≠ o) :
    Calls Try.prog 136 #[.pointer (some ⟨b, 0, none⟩), .int .i64 a, .int .i64 o, .int .i64 v] w fun e w' => e = .returned (.tuple #[.int .i64 (s.zs.getD a.toNat 0), .bool false, .int .i64 0]) ∧
      Mem w' B b vw (s.acc 3 a v (s.zs.getD a.toNat 0) false) ∧ Wrote (MemS b vw) w w' := by
  have hlt := h.lt
  have H := hid h
  obtain ⟨⟨c0, _⟩, _⟩ := h.facts
  obtain ⟨g, cap, hv, _, hg, hne, ci, fi⟩ := h.word (i := a.toNat) (by omega)
  obtain ⟨_, _, _, hmx, _, _⟩ := h.shape
  unfold maxLen at hmx
  generalize hz : s.zs.getD a.toNat 0 = z at ci hn ⊢
  have Hz := hid hz
  have Hv := hid hv
  rw [hv] at c0
  have hn' : (z == o) = false := by simpa using hn
  clear h hv hz hn
  go_enter Try.func136, Try.ntmps136
  go_wp2_with (first | (go_at_call 67; refine (refusal_in _ _ _ _ _ _ H.out h0 h1).mono ?_; rintro e w' ⟨rfl, rfl⟩) | (go_at_call 80; refine (count_any _ _ _ _ _ _ _ _ _ _ H.out).mono ?_; rintro e w' ⟨rfl, hm, hw⟩))
  go_ret3
  exact ⟨rfl, hm, hw.mono fun _ _ h => .inl h⟩

set_option maxHeartbeats 400000 in
theorem Swap_yes (a o v : Int) (w : World) (B b : Nat) (vw : Value) (s : MS) (h : Mem w B b vw s) (h0 : 0 ≤ a) (h1 : a < (s.zs.length : Int)) (hn : s.zs.getD a.toNat 0 = o) :
    Calls Try.prog 136 #[.pointer (some ⟨b, 0, none⟩), .int .i64 a, .int .i64 o, .int .i64 v] w fun e w' => e = .returned (.tuple #[.int .i64 o, .bool true, .int .i64 0]) ∧
      Mem w' B b vw ((s.put a.toNat v).acc 3 a v o true) ∧ Wrote (MemS b vw) w w' := by
  have hlt := h.lt
  have H := hid h
  obtain ⟨⟨c0, _⟩, _⟩ := h.facts
  obtain ⟨g, cap, hv, _, hg, hne, ci, fi⟩ := h.word (i := a.toNat) (by omega)
  obtain ⟨_, _, _, hmx, _, _⟩ := h.shape
  unfold maxLen at hmx
  rw [hn] at ci
  have Hv := hid hv
  rw [hv] at c0
  have hn' : (o == o) = true := by simp
  clear h hv hn
  go_enter Try.func136, Try.ntmps136
  go_wp2_with (first | (go_at_call 67; refine (refusal_in _ _ _ _ _ _ H.out h0 h1).mono ?_; rintro e w' ⟨rfl, rfl⟩) | (go_at_call 80; refine (count_any _ _ _ _ _ _ _ _ _ _ (H.out.store Hv.out _ _)).mono ?_; rintro e w' ⟨rfl, hm, hw⟩))
  go_ret3
  exact ⟨rfl, hm, (Wrote.setCell (Wrote.refl _ w) (p := ⟨g, a.toNat, none⟩) (by intro _; exact .inr (by simp [Hv.out, Value.ownBlock])) _).then hw fun _ _ h => .inl h⟩

/-! ### what makes no step -/
set_option maxHeartbeats 400000 in
theorem Peek_nil (a : Int) (w : World) :
    Calls Try.prog 21 #[.pointer none, .int .i64 a] w fun e w' => e = .returned (.int .i64 0) ∧ w = w' := by
  go_enter Try.func21, Try.ntmps21
  go_wp2_with (go_at_call 67; refine (refusal_nil _ _).mono ?_; rintro e w' ⟨rfl, rfl⟩)
  go_ret
  exact ⟨rfl, rfl⟩

set_option maxHeartbeats 400000 in
theorem Peek_out (a : Int) (w : World) (B b : Nat) (vw : Value) (s : MS) (h : Mem w B b vw s) (ho : a < 0 ∨ (s.zs.length : Int) ≤ a) :
    Calls Try.prog 21 #[.pointer (some ⟨b, 0, none⟩), .int .i64 a] w fun e w' => e = .returned (.int .i64 0) ∧ w = w' := by
  have H := hid h; clear h
  have Ho := hid ho; clear ho
  go_enter Try.func21, Try.ntmps21
  go_wp2_with (go_at_call 67; refine (refusal_out _ _ _ _ _ _ H.out Ho.out).mono ?_; rintro e w' ⟨rfl, rfl⟩)
  go_ret
  exact ⟨rfl, rfl⟩

set_option maxHeartbeats 400000 in
theorem Peek_in (a : Int) (w : World) (B b : Nat) (vw : Value) (s : MS) (h : Mem w B b vw s) (h0 : 0 ≤ a) (h1 : a < (s.zs.length : Int)) :
    Calls Try.prog 21 #[.pointer (some ⟨b, 0, none⟩), .int .i64 a] w fun e w' => e = .returned (.int .i64 (s.zs.getD a.toNat 0)) ∧ w = w' := by
  have H := hid h
  obtain ⟨⟨c0, _⟩, _⟩ := h.facts
  obtain ⟨g, cap, hv, _, hg, hne, ci, fi⟩ := h.word (i := a.toNat) (by omega)
  obtain ⟨_, _, _, hmx, _, _⟩ := h.shape
  unfold maxLen at hmx
  generalize hz : s.zs.getD a.toNat 0 = z at ci ⊢
  rw [hv] at c0
  clear h hv hz
  go_enter Try.func21, Try.ntmps21
  go_wp2_with (go_at_call 67; refine (refusal_in _ _ _ _ _ _ H.out h0 h1).mono ?_; rintro e w' ⟨rfl, rfl⟩)
  go_ret
  exact ⟨rfl, rfl⟩

set_option maxHeartbeats 400000 in
theorem Steps_nil (w : World) : Calls Try.prog 51 #[.pointer none] w fun e w' => e = .returned (.int .i64 0) ∧ w = w' := by
  go_enter Try.func51, Try.ntmps51
  go_wp2
  go_ret
  exact ⟨rfl, rfl⟩

set_option maxHeartbeats 400000 in
theorem Steps_any (w : World) (B b : Nat) (vw : Value) (s : MS) (h : Mem w B b vw s) :
    Calls Try.prog 51 #[.pointer (some ⟨b, 0, none⟩)] w fun e w' => e = .returned (.int .i64 s.steps) ∧ w = w' := by
  obtain ⟨⟨_, c1, _⟩, _⟩ := h.facts
  clear h
  go_enter Try.func51, Try.ntmps51
  go_wp2
  go_ret
  exact ⟨rfl, rfl⟩

set_option maxHeartbeats 400000 in
theorem Len_nil (w : World) : Calls Try.prog 69 #[.pointer none] w fun e w' => e = .returned (.int .i64 0) ∧ w = w' := by
  go_enter Try.func69, Try.ntmps69
  go_wp2
  go_ret
  exact ⟨rfl, rfl⟩

set_option maxHeartbeats 400000 in
theorem Len_any (w : World) (B b : Nat) (vw : Value) (s : MS) (h : Mem w B b vw s) :
    Calls Try.prog 69 #[.pointer (some ⟨b, 0, none⟩)] w fun e w' => e = .returned (.int .i64 s.zs.length) ∧ w = w' := by
  obtain ⟨⟨c0, _⟩, _⟩ := h.facts
  obtain ⟨_, _, hv, hmx, _, _⟩ := h.shape
  unfold maxLen at hmx
  rw [hv] at c0
  clear h hv
  go_enter Try.func69, Try.ntmps69
  go_wp2
  go_ret
  exact ⟨rfl, rfl⟩

end Go.Proofs.Ytjfinnjmcnjciaa
