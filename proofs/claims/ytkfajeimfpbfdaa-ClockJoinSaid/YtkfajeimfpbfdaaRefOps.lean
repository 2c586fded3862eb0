/-
  The document's own memory (syncoperef2): its accesses.
-/
import Derived.Test.YtkfajeimfpbfdaaRef
import Derived.StillTailTactics
namespace Go.Proofs.Ytkfajeimfpbfdaa
open Go.RowKit

theorem IsMem.counted0 {T E : TypeId} {w : World} {B b : Nat} {vw : Value} {s : MS} (h : IsMem T E w B b vw s) (k a v o : Int) (d : Bool) :
    IsMem T E ((((((w.setCell ⟨b, 1, none⟩ (.int .i64 (wrap64 (s.steps + 1)))).setCell ⟨b, 2, none⟩ (.int .i64 k)).setCell ⟨b, 3, none⟩ (.int .i64 a)).setCell ⟨b, 4, none⟩ (.int .i64 v)).setCell ⟨b, 5, none⟩ (.int .i64 o)).setCell ⟨b, 6, none⟩ (.bool d)) B b vw (s.acc k a v o d) ∧
    Wrote (fun k => k = b) w ((((((w.setCell ⟨b, 1, none⟩ (.int .i64 (wrap64 (s.steps + 1)))).setCell ⟨b, 2, none⟩ (.int .i64 k)).setCell ⟨b, 3, none⟩ (.int .i64 a)).setCell ⟨b, 4, none⟩ (.int .i64 v)).setCell ⟨b, 5, none⟩ (.int .i64 o)).setCell ⟨b, 6, none⟩ (.bool d)) := by
  have hw : Wrote (fun k => k = b) w ((((((w.setCell ⟨b, 1, none⟩ (.int .i64 (wrap64 (s.steps + 1)))).setCell ⟨b, 2, none⟩ (.int .i64 k)).setCell ⟨b, 3, none⟩ (.int .i64 a)).setCell ⟨b, 4, none⟩ (.int .i64 v)).setCell ⟨b, 5, none⟩ (.int .i64 o)).setCell ⟨b, 6, none⟩ (.bool d)) := by
    iterate 6 refine Wrote.setCell ?_ (by intro _; rfl) _
    exact Wrote.refl _ w
  refine ⟨h.recell rfl ?_ hw, hw⟩
  rw [blk_setCell (blk_setCell (blk_setCell (blk_setCell (blk_setCell (blk_setCell h.blk _ _) _ _) _ _) _ _) _ _) _ _]
  rfl

set_option maxRecDepth 100000 in
set_option maxHeartbeats 400000 in
theorem rdone_any (k a v o : Int) (d : Bool) (w : World) (B b : Nat) (vw : Value) (s : MS) (h : Ref w B b vw s) :
    Calls Try.prog 32 #[.pointer (some ⟨b, 0, none⟩), .int .i64 k, .int .i64 a, .int .i64 v, .int .i64 o, .bool d] w fun e w' => e = .returned (.tuple #[]) ∧
      Ref w' B b vw (s.acc k a v o d) ∧ Wrote (fun k => k = b) w w' := by
  have hlt := h.lt
  have H := hid h
  obtain ⟨⟨_, c1, c2, c3, c4, c5, c6⟩, hf⟩ := h.facts
  have f1 := hf 1; have f2 := hf 2; have f3 := hf 3; have f4 := hf 4; have f5 := hf 5; have f6 := hf 6
  clear h hf
  go_enter Try.func32, Try.ntmps32
  go_wp2
  go_end0
  exact ⟨rfl, H.out.counted0 k a v o d⟩

set_option maxRecDepth 100000 in
set_option maxHeartbeats 400000 in
theorem rin_out (a : Int) (w : World) (B b : Nat) (vw : Value) (s : MS) (h : Ref w B b vw s) (ho : a < 0 ∨ (s.zs.length : Int) ≤ a) :
    Calls Try.prog 31 #[.pointer (some ⟨b, 0, none⟩), .int .i64 a] w fun e w' => e = .returned (.bool false) ∧ w = w' := by
  obtain ⟨ad, cap, rfl, hmx, _, _⟩ := h.shape
  obtain ⟨⟨c0, _⟩, _⟩ := h.facts
  clear h
  unfold maxLen at hmx
  rcases ho with ho | ho
  · have h0 : decide ((0 : Int) ≤ a) = false := by simp; omega
    go_enter Try.func31, Try.ntmps31
    go_wp2
    go_ret
    exact ⟨rfl, rfl⟩
  · have h0 : decide ((0 : Int) ≤ a) = true := by simp; omega
    have h1 : decide (a < (s.zs.length : Int)) = false := by simp; omega
    go_enter Try.func31, Try.ntmps31
    go_wp2
    go_ret
    exact ⟨rfl, rfl⟩

set_option maxRecDepth 100000 in
set_option maxHeartbeats 400000 in
theorem rin_in (a : Int) (w : World) (B b : Nat) (vw : Value) (s : MS) (h : Ref w B b vw s) (h0 : 0 ≤ a) (h1 : a < (s.zs.length : Int)) :
    Calls Try.prog 31 #[.pointer (some ⟨b, 0, none⟩), .int .i64 a] w fun e w' => e = .returned (.bool true) ∧ w = w' := by
  obtain ⟨ad, cap, rfl, hmx, _, _⟩ := h.shape
  obtain ⟨⟨c0, _⟩, _⟩ := h.facts
  clear h
  unfold maxLen at hmx
  go_enter Try.func31, Try.ntmps31
  go_wp2
  go_ret
  exact ⟨rfl, rfl⟩

set_option maxRecDepth 100000 in
set_option maxHeartbeats 400000 in
theorem rLoad_out (a : Int) (w : World) (B b : Nat) (vw : Value) (s : MS) (h : Ref w B b vw s) (ho : a < 0 ∨ (s.zs.length : Int) ≤ a) :
    Calls Try.prog 42 #[.pointer (some ⟨b, 0, none⟩), .int .i64 a] w fun e w' => e = .returned (.tuple #[.int .i64 0, .int .i64 2]) ∧ w = w' := by
  have H := hid h; clear h
  have Ho := hid ho; clear ho
  go_enter Try.func42, Try.ntmps42
  go_wp2_with (go_at_call 31; refine (rin_out _ _ _ _ _ _ H.out Ho.out).mono ?_; rintro e w' ⟨rfl, rfl⟩)
  go_ret2
  exact ⟨rfl, rfl⟩

set_option maxRecDepth 100000 in
set_option maxHeartbeats 400000 in
theorem rStore_out (a v : Int) (w : World) (B b : Nat) (vw : Value) (s : MS) (h : Ref w B b vw s) (ho : a < 0 ∨ (s.zs.length : Int) ≤ a) :
    Calls Try.prog 11 #[.pointer (some ⟨b, 0, none⟩), .int .i64 a, .int .i64 v] w fun e w' => e = .returned (.int .i64 2) ∧ w = w' := by
  have H := hid h; clear h
  have Ho := hid ho; clear ho
  go_enter Try.func11, Try.ntmps11
  go_wp2_with (go_at_call 31; refine (rin_out _ _ _ _ _ _ H.out Ho.out).mono ?_; rintro e w' ⟨rfl, rfl⟩)
  go_ret
  exact ⟨rfl, rfl⟩

set_option maxRecDepth 100000 in
set_option maxHeartbeats 400000 in
theorem rAdd_out (a v : Int) (w : World) (B b : Nat) (vw : Value) (s : MS) (h : Ref w B b vw s) (ho : a < 0 ∨ (s.zs.length : Int) ≤ a) :
    Calls Try.prog 41 #[.pointer (some ⟨b, 0, none⟩), .int .i64 a, .int .i64 v] w fun e w' => e = .returned (.tuple #[.int .i64 0, .int .i64 2]) ∧ w = w' := by
  have H := hid h; clear h
  have Ho := hid ho; clear ho
  go_enter Try.func41, Try.ntmps41
  go_wp2_with (go_at_call 31; refine (rin_out _ _ _ _ _ _ H.out Ho.out).mono ?_; rintro e w' ⟨rfl, rfl⟩)
  go_ret2
  exact ⟨rfl, rfl⟩

set_option maxRecDepth 100000 in
set_option maxHeartbeats 400000 in
theorem rSwap_out (a o v : Int) (w : World) (B b : Nat) (vw : Value) (s : MS) (h : Ref w B b vw s) (ho : a < 0 ∨ (s.zs.length : Int) ≤ a) :
    Calls Try.prog 43 #[.pointer (some ⟨b, 0, none⟩), .int .i64 a, .int .i64 o, .int .i64 v] w fun e w' => e = .returned (.tuple #[.int .i64 0, .bool false, .int .i64 2]) ∧ w = w' := by
  have H := hid h; clear h
  have Ho := hid ho; clear ho
  go_enter Try.func43, Try.ntmps43
  go_wp2_with (go_at_call 31; refine (rin_out _ _ _ _ _ _ H.out Ho.out).mono ?_; rintro e w' ⟨rfl, rfl⟩)
  go_ret3
  exact ⟨rfl, rfl⟩

theorem mem_word {T E : TypeId} {w : World} {B b : Nat} {vw : Value} {s : MS} (k : IsMem T E w B b vw s) {g L cap i : Nat} (hv : vw = .slice (some ⟨g, 0, none⟩) L cap) (hL : s.zs.length = L) (hi : i < L) :
    w.cell? ⟨b, 0, none⟩ = some (.slice (some ⟨g, 0, none⟩) L cap) ∧ w.cell? ⟨g, i, none⟩ = some (.int .i64 (s.zs.getD i 0)) ∧ w.frozen? ⟨g, i, none⟩ = false := by
  subst hL
  obtain ⟨g', cap', hv', _, _, _, h1, h2⟩ := k.word hi
  rw [hv] at hv'
  simp only [Value.slice.injEq, Option.some.injEq, Addr.mk.injEq, and_true, true_and] at hv'
  obtain ⟨rfl, rfl⟩ := hv'
  exact ⟨by rw [k.facts.1.1, hv], h1, h2⟩

/-- What a store into a word leaves, behind a count: nothing else. -/
theorem ref_store {w w' : World} {B b : Nat} {vw : Value} {s : MS} (k : Ref w' B b vw s) (hw : Wrote (fun q => q = b) w w') {g cap : Nat} (hv : vw = .slice (some ⟨g, 0, none⟩) s.zs.length cap) (i : Nat) (v : Int) :
    Ref (w'.setCell ⟨g, i, none⟩ (.int .i64 v)) B b vw (s.put i v) ∧ Wrote (MemS b vw) w (w'.setCell ⟨g, i, none⟩ (.int .i64 v)) :=
  ⟨k.store hv i v, (hw.mono (S' := MemS b vw) fun _ _ h => .inl h).setCell (p := ⟨g, i, none⟩) (by intro _; exact .inr (by simp [hv, Value.ownBlock])) _⟩

set_option maxRecDepth 100000 in
set_option maxHeartbeats 400000 in
theorem rStore_in (a v : Int) (w : World) (B b : Nat) (vw : Value) (s : MS) (h : Ref w B b vw s) (h0 : 0 ≤ a) (h1 : a < (s.zs.length : Int)) :
    Calls Try.prog 11 #[.pointer (some ⟨b, 0, none⟩), .int .i64 a, .int .i64 v] w fun e w' => e = .returned (.int .i64 0) ∧
      Ref w' B b vw ((s.put a.toNat v).acc 2 a v (s.zs.getD a.toNat 0) true) ∧ Wrote (MemS b vw) w w' := by
  have H := hid h
  obtain ⟨⟨c0, _⟩, _⟩ := h.facts
  obtain ⟨g, cap, hv, _, hg, hne, ci, fi⟩ := h.word (i := a.toNat) (by omega)
  obtain ⟨_, _, _, hmx, _, _⟩ := h.shape
  unfold maxLen at hmx
  generalize hz : s.zs.getD a.toNat 0 = z at ci ⊢
  have Hz := hid hz
  have Hv := hid hv
  have Hi : Hid (a.toNat < s.zs.length) := hid (by omega)
  rw [hv] at c0
  clear h hv hz
  go_enter Try.func11, Try.ntmps11
  go_wp2_with (first | (go_at_call 31; refine (rin_in _ _ _ _ _ _ H.out h0 h1).mono ?_; rintro e w' ⟨rfl, rfl⟩) | (go_at_call 32; refine (rdone_any _ _ _ _ _ _ _ _ _ _ H.out).mono ?_; rintro e w1 ⟨rfl, hm, hw⟩; have HM := hid hm; have HW := hid hw; obtain ⟨d0, d1, d2⟩ := mem_word hm Hv.out rfl Hi.out; clear hm hw))
  go_ret
  exact ⟨rfl, ref_store HM.out HW.out Hv.out a.toNat v⟩

set_option maxRecDepth 100000 in
set_option maxHeartbeats 400000 in
theorem rAdd_in (a v : Int) (w : World) (B b : Nat) (vw : Value) (s : MS) (h : Ref w B b vw s) (h0 : 0 ≤ a) (h1 : a < (s.zs.length : Int)) :
    Calls Try.prog 41 #[.pointer (some ⟨b, 0, none⟩), .int .i64 a, .int .i64 v] w fun e w' => e = .returned (.tuple #[.int .i64 (s.zs.getD a.toNat 0), .int .i64 0]) ∧
      Ref w' B b vw ((s.put a.toNat (wrap64 (s.zs.getD a.toNat 0 + v))).acc 4 a v (s.zs.getD a.toNat 0) true) ∧ Wrote (MemS b vw) w w' := by
  have H := hid h
  obtain ⟨⟨c0, _⟩, _⟩ := h.facts
  obtain ⟨g, cap, hv, _, hg, hne, ci, fi⟩ := h.word (i := a.toNat) (by omega)
  obtain ⟨_, _, _, hmx, _, _⟩ := h.shape
  unfold maxLen at hmx
  generalize hz : s.zs.getD a.toNat 0 = z at ci ⊢
  have Hz := hid hz
  have Hv := hid hv
  have Hi : Hid (a.toNat < s.zs.length) := hid (by omega)
  rw [hv] at c0
  clear h hv hz
  go_enter Try.func41, Try.ntmps41
  go_wp2_with (first | (go_at_call 31; refine (rin_in _ _ _ _ _ _ H.out h0 h1).mono ?_; rintro e w' ⟨rfl, rfl⟩) | (go_at_call 32; refine (rdone_any _ _ _ _ _ _ _ _ _ _ H.out).mono ?_; rintro e w1 ⟨rfl, hm, hw⟩; have HM := hid hm; have HW := hid hw; obtain ⟨d0, d1, d2⟩ := mem_word hm Hv.out rfl Hi.out; clear hm hw))
  go_ret2
  exact ⟨rfl, ref_store HM.out HW.out Hv.out a.toNat _⟩

set_option maxRecDepth 100000 in
set_option maxHeartbeats 400000 in
theorem rSwap_no (a o v : Int) (w : World) (B b : Nat) (vw : Value) (s : MS) (h : Ref w B b vw s) (h0 : 0 ≤ a) (h1 : a < (s.zs.length : Int)) (hn : s.zs.getD a.toNat 0 ≠ o) :
    Calls Try.prog 43 #[.pointer (some ⟨b, 0, none⟩), .int .i64 a, .int .i64 o, .int .i64 v] w fun e w' => e = .returned (.tuple #[.int .i64 (s.zs.getD a.toNat 0), .bool false, .int .i64 0]) ∧
      Ref w' B b vw (s.acc 3 a v (s.zs.getD a.toNat 0) false) ∧ Wrote (MemS b vw) w w' := by
  have H := hid h
  obtain ⟨⟨c0, _⟩, _⟩ := h.facts
  obtain ⟨g, cap, hv, _, hg, hne, ci, fi⟩ := h.word (i := a.toNat) (by omega)
  obtain ⟨_, _, _, hmx, _, _⟩ := h.shape
  unfold maxLen at hmx
  generalize hz : s.zs.getD a.toNat 0 = z at ci hn ⊢
  have Hv := hid hv
  rw [hv] at c0
  have hn' : (z == o) = false := by simpa using hn
  clear h hv hz hn
  go_enter Try.func43, Try.ntmps43
  go_wp2_with (first | (go_at_call 31; refine (rin_in _ _ _ _ _ _ H.out h0 h1).mono ?_; rintro e w' ⟨rfl, rfl⟩) | (go_at_call 32; refine (rdone_any _ _ _ _ _ _ _ _ _ _ H.out).mono ?_; rintro e w1 ⟨rfl, hm, hw⟩))
  go_ret3
  exact ⟨rfl, hm, hw.mono fun _ _ h => .inl h⟩

set_option maxRecDepth 100000 in
set_option maxHeartbeats 400000 in
theorem rSwap_yes (a o v : Int) (w : World) (B b : Nat) (vw : Value) (s : MS) (h : Ref w B b vw s) (h0 : 0 ≤ a) (h1 : a < (s.zs.length : Int)) (hn : s.zs.getD a.toNat 0 = o) :
    Calls Try.prog 43 #[.pointer (some ⟨b, 0, none⟩), .int .i64 a, .int .i64 o, .int .i64 v] w fun e w' => e = .returned (.tuple #[.int .i64 o, .bool true, .int .i64 0]) ∧
      Ref w' B b vw ((s.put a.toNat v).acc 3 a v o true) ∧ Wrote (MemS b vw) w w' := by
  have H := hid h
  obtain ⟨⟨c0, _⟩, _⟩ := h.facts
  obtain ⟨g, cap, hv, _, hg, hne, ci, fi⟩ := h.word (i := a.toNat) (by omega)
  obtain ⟨_, _, _, hmx, _, _⟩ := h.shape
  unfold maxLen at hmx
  rw [hn] at ci
  have Hv := hid hv
  have Hi : Hid (a.toNat < s.zs.length) := hid (by omega)
  rw [hv] at c0
  have hn' : (o == o) = true := by simp
  clear h hv hn
  go_enter Try.func43, Try.ntmps43
  go_wp2_with (first | (go_at_call 31; refine (rin_in _ _ _ _ _ _ H.out h0 h1).mono ?_; rintro e w' ⟨rfl, rfl⟩) | (go_at_call 32; refine (rdone_any _ _ _ _ _ _ _ _ _ _ H.out).mono ?_; rintro e w1 ⟨rfl, hm, hw⟩; have HM := hid hm; have HW := hid hw; obtain ⟨d0, d1, d2⟩ := mem_word hm Hv.out rfl Hi.out; clear hm hw))
  go_ret3
  exact ⟨rfl, ref_store HM.out HW.out Hv.out a.toNat v⟩

set_option maxRecDepth 100000 in
set_option maxHeartbeats 400000 in
theorem rLoad_in (a : Int) (w : World) (B b : Nat) (vw : Value) (s : MS) (h : Ref w B b vw s) (h0 : 0 ≤ a) (h1 : a < (s.zs.length : Int)) :
    Calls Try.prog 42 #[.pointer (some ⟨b, 0, none⟩), .int .i64 a] w fun e w' => e = .returned (.tuple #[.int .i64 (s.zs.getD a.toNat 0), .int .i64 0]) ∧
      Ref w' B b vw (s.acc 1 a (s.zs.getD a.toNat 0) (s.zs.getD a.toNat 0) true) ∧ Wrote (MemS b vw) w w' := by
  have H := hid h
  obtain ⟨⟨c0, _⟩, _⟩ := h.facts
  obtain ⟨g, cap, hv, _, hg, hne, ci, fi⟩ := h.word (i := a.toNat) (by omega)
  obtain ⟨_, _, _, hmx, _, _⟩ := h.shape
  unfold maxLen at hmx
  generalize hz : s.zs.getD a.toNat 0 = z at ci ⊢
  have Hz := hid hz
  have Hv := hid hv
  have Hi : Hid (a.toNat < s.zs.length) := hid (by omega)
  rw [hv] at c0
  clear h hv
  go_enter Try.func42, Try.ntmps42
  go_wp2_with (go_at_call 31; refine (rin_in _ _ _ _ _ _ H.out h0 h1).mono ?_; rintro e w' ⟨rfl, rfl⟩)
  have H2 : Hid (Ref w.drew B b vw s) := hid (H.out.kept (Wrote.refl (fun _ => False) w).drew (fun _ _ h => h))
  have HW2 : Hid (Wrote (MemS b vw) w w.drew) := hid (Wrote.refl _ w).drew
  clear hz
  go_still_tail 16, (by kernel_rfl)
  change wpList _ _ _ _ _ w.drew
  generalize w.drew = w2 at H2 HW2 ⊢
  clear c0 ci fi
  go_wp2_with (go_at_call 32; refine (rdone_any _ _ _ _ _ _ _ _ _ _ H2.out).mono ?_; rintro e w1 ⟨rfl, hm, hw⟩; have HM := hid hm; have HW := hid hw; obtain ⟨d0, d1, d2⟩ := mem_word hm Hv.out rfl Hi.out; rw [show (s.acc 1 a z z true).zs.getD a.toNat 0 = z from Hz.out] at d1; clear hm hw)
  go_ret2
  exact ⟨rfl, HM.out, HW2.out.then (HW.out.mono (S' := MemS b vw) fun _ _ h => .inl h) fun _ _ h => h⟩

end Go.Proofs.Ytkfajeimfpbfdaa
