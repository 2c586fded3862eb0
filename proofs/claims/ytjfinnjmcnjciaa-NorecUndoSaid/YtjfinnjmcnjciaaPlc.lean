/-
  THE CONTRACTS OF package place.
-/
import Derived.Test.YtjfinnjmcnjciaaPm
import Derived.Great.BuildSlice
import Derived.Laws.CopyOwn
namespace Go.Proofs.Ytjfinnjmcnjciaa
open Go.RowKit

set_option maxHeartbeats 400000 in
theorem within_any (n a b : Int) (w : World) :
    Calls Try.prog 106 #[.int .i64 n, .int .i64 a, .int .i64 b] w fun e w' => e = .returned (.bool (inB n a b)) ∧ w = w' := by
  by_cases h1 : a ≤ n
  · by_cases h2 : n ≤ b
    · have H := hid (inB_yes h1 h2)
      go_enter Try.func106, Try.ntmps106
      go_wp2
      go_ret
      exact ⟨by rw [H.out]; rfl, rfl⟩
    · have H := hid (inB_no (n := n) (a := a) (b := b) (by omega))
      go_enter Try.func106, Try.ntmps106
      go_wp2
      go_ret
      exact ⟨by rw [H.out]; rfl, rfl⟩
  · have H := hid (inB_no (n := n) (a := a) (b := b) (by omega))
    go_enter Try.func106, Try.ntmps106
    go_wp2
    go_ret
    exact ⟨by rw [H.out]; rfl, rfl⟩

set_option maxHeartbeats 1000000 in
theorem may_any (m : PM) (w : World) :
    Calls Try.prog 104 #[m.v] w fun e w' => e = .returned (.bool (pmayB m)) ∧ Below w.heap.size w w' := by
  obtain ⟨s, l, t, c, d⟩ := m
  show Calls _ _ #[.agg #[.int .i64 s, .int .i64 l, .int .i64 t, .int .i64 c, .int .i64 d]] _ _
  cases h1 : inB s 1 16
  case' true => cases h2 : inB l 0 4
  case' true.true => cases h3 : inB t 1 4
  case' true.true.true => cases h4 : inB c 0 4
  case' true.true.true.true => cases h5 : inB d 0 32
  case true.true.true.true.true =>
    have H := hid (pmayB_yes (m := ⟨s, l, t, c, d⟩) ⟨(inB_iff.1 h1).1, (inB_iff.1 h1).2, (inB_iff.1 h2).1, (inB_iff.1 h2).2, (inB_iff.1 h3).1, (inB_iff.1 h3).2, (inB_iff.1 h4).1, (inB_iff.1 h4).2, (inB_iff.1 h5).1, (inB_iff.1 h5).2⟩)
    go_enter Try.func104, Try.ntmps104
    go_wp2_with (go_at_call 106; refine (within_any _ _ _ _).mono ?_; rintro e w' ⟨rfl, rfl⟩)
    go_ret
    exact ⟨by rw [H.out]; rfl, (Below.refl _ _).alloc (Nat.le_refl _) _⟩
  all_goals
    have H := hid (pmayB_no (m := ⟨s, l, t, c, d⟩) fun h => by
      have g1 := inB_yes h.s1 h.s2
      have g2 := inB_yes h.l1 h.l2
      have g3 := inB_yes h.t1 h.t2
      have g4 := inB_yes h.c1 h.c2
      have g5 := inB_yes h.d1 h.d2
      simp_all)
    go_enter Try.func104, Try.ntmps104
    go_wp2_with (go_at_call 106; refine (within_any _ _ _ _).mono ?_; rintro e w' ⟨rfl, rfl⟩)
    go_ret
    exact ⟨by rw [H.out]; rfl, (Below.refl _ _).alloc (Nat.le_refl _) _⟩

theorem rowsSize : (Try.prog.info? 138).map (·.size) = some 27 := by kernel_rfl

/-- What holds when k rows know where they begin. -/
def RowsAt (w : World) (m : PM) (k : Nat) (wr : World) : Prop :=
  wr.heap[w.heap.size + 1 + 1]? = some (.cells (m.lay k) 138 (0, 0)) ∧ (∃ old, wr.heap[w.heap.size + 1]? = some (.cells old 138 (0, 0)) ∧ old.size = 27) ∧ Below w.heap.size w wr

theorem RowsAt.cell {w : World} {m : PM} {k : Nat} {wr : World} (h : RowsAt w m k wr) (i : Nat) (v : Value) (hv : (m.lay k)[i]? = some v) : wr.cell? ⟨w.heap.size + 1 + 1, i, none⟩ = some v := (cell_of_blk h.1 i).trans hv
theorem RowsAt.frozen {w : World} {m : PM} {k : Nat} {wr : World} (h : RowsAt w m k wr) (i : Nat) : wr.frozen? ⟨w.heap.size + 1 + 1, i, none⟩ = false := frozen_of_blk h.1 i
theorem RowsAt.size {w : World} {m : PM} {k : Nat} {wr : World} (h : RowsAt w m k wr) : w.heap.size + 1 + 1 < wr.heap.size := lt_of_block h.1
theorem RowsAt.step {w : World} {m : PM} {k : Nat} {wr : World} (h : RowsAt w m k wr) (i : Nat) (v : Value) (ob : Obj) (hl : (m.lay k).setIfInBounds i v = m.lay (k + 1)) :
    RowsAt w m (k + 1) ((wr.setCell ⟨w.heap.size + 1 + 1, i, none⟩ v).alloc ob) := by
  have hlt := lt_of_block h.1
  obtain ⟨h1, ⟨old, h2, h3⟩, h4⟩ := h
  refine ⟨?_, ⟨old, ?_, h3⟩, ?_⟩
  · rw [Below.heap_alloc _ _ _ (by simpa using hlt), blk_setCell h1, hl]
  · rw [Below.heap_alloc _ _ _ (by have := lt_of_block h2; simpa using this), Below.heap_setCell _ _ _ _ (by simp)]
    exact h2
  · exact (h4.setCell (by simp; omega) _).alloc (by simpa using h4.size) _
def zeros27 : Array Value := #[.int .i64 0, .int .i64 0, .int .i64 0, .int .i64 0, .int .i64 0, .int .i64 0, .int .i64 0, .int .i64 0, .int .i64 0, .int .i64 0, .int .i64 0, .int .i64 0, .int .i64 0, .int .i64 0, .int .i64 0, .int .i64 0, .int .i64 0, .int .i64 0, .int .i64 0, .int .i64 0, .int .i64 0, .int .i64 0, .int .i64 0, .int .i64 0, .int .i64 0, .int .i64 0, .int .i64 0]

set_option maxHeartbeats 1000000 in
theorem rows_any (m : PM) (w : World) (h : m.Ok) :
    Calls Try.prog 105 #[m.v] w fun e w' => e = .returned (.agg (m.lay 9)) ∧ Below w.heap.size w w' := by
  have htl := m.tl h
  obtain ⟨s1, s2, l1, l2, t1, t2, c1, c2, d1, d2⟩ := h
  obtain ⟨s, l, t, c, d⟩ := m
  simp only at s1 s2 l1 l2 t1 t2 c1 c2 d1 d2 htl
  obtain ⟨h1, h2⟩ := htl
  show Calls _ _ #[.agg #[.int .i64 s, .int .i64 l, .int .i64 t, .int .i64 c, .int .i64 d]] _ _
  go_enter Try.func105, Try.ntmps105
  go_wp2_with (first | (with_reducible refine wpList_buildTo (o := ⟨some 32, .build 138 _, _, _, _, _⟩) rfl 138 _ rfl (some 32) rfl (PM.lay ⟨s, l, t, c, d⟩ 1) (by kernel_rfl) ?_) | (with_reducible refine wpList_store_fresh (o := ⟨none, .store 138 _ _, _, _, _, _⟩) rfl 138 (.tmp 3) (.tmp 32) rfl (w.heap.size + 1 + 1) (size_alloc2 _ _ _) 138 _ (PM.lay ⟨s, l, t, c, d⟩ 1) (by kernel_rfl) (by kernel_rfl) 27 rowsSize (by kernel_rfl) (by kernel_rfl) (PM.lay_one _ _) ?_))
  go_loopw [4] (fun i wr => ∃ k : Nat, 1 ≤ k ∧ k ≤ 9 ∧ i = .int .i64 k ∧ RowsAt w ⟨s, l, t, c, d⟩ k wr) (fun i _ => 9 - (intOf i).toNat)
  case atStart =>
    refine ⟨1, Nat.le_refl _, by decide, rfl, ?_, ⟨zeros27, ?_, rfl⟩, ?_⟩
    · have := heap_alloc_new ((w.alloc (.cells #[.int .i64 s, .int .i64 l, .int .i64 t, .int .i64 c, .int .i64 d] 31)).alloc (.cells zeros27 138)) (.cells (PM.lay ⟨s, l, t, c, d⟩ 1) 138)
      rw [size_alloc2] at this
      exact this
    · rw [Below.heap_alloc _ _ _ (by simp)]
      have := heap_alloc_new (w.alloc (.cells #[.int .i64 s, .int .i64 l, .int .i64 t, .int .i64 c, .int .i64 d] 31)) (.cells zeros27 138)
      rw [size_alloc1] at this
      exact this
    · exact (((Below.refl _ _).alloc (Nat.le_refl _) _).alloc (by simp) _).alloc (by simp; omega) _
  case round =>
    obtain ⟨k, hk1, hk2, rfl, hr⟩ := hrel
    have HR := hid hr
    clear hr
    have hk : k = 1 ∨ k = 2 ∨ k = 3 ∨ k = 4 ∨ k = 5 ∨ k = 6 ∨ k = 7 ∨ k = 8 ∨ k = 9 := by omega
    rcases hk with rfl | rfl | rfl | rfl | rfl | rfl | rfl | rfl | rfl
    · have c0 := HR.out.cell 0 (.int .i64 (0)) rfl
      have c1 := HR.out.cell 1 (.int .i64 (1)) rfl
      have c2 := HR.out.cell 2 (.int .i64 1) rfl
      have c3 := HR.out.cell 3 (.int .i64 0) rfl
      have f3 := HR.out.frozen 3
      have hsz := HR.out.size
      go_wp2
      go_roundw
      case rel => exact ⟨2, by omega, by omega, rfl, HR.out.step 3 _ _ rfl⟩
      case measure => simp [intOf]
    · have c0 := HR.out.cell 3 (.int .i64 (1)) rfl
      have c1 := HR.out.cell 4 (.int .i64 (1)) rfl
      have c2 := HR.out.cell 5 (.int .i64 1) rfl
      have c3 := HR.out.cell 6 (.int .i64 0) rfl
      have f3 := HR.out.frozen 6
      have hsz := HR.out.size
      go_wp2
      go_roundw
      case rel => exact ⟨3, by omega, by omega, rfl, HR.out.step 6 _ _ rfl⟩
      case measure => simp [intOf]
    · have c0 := HR.out.cell 6 (.int .i64 (2)) rfl
      have c1 := HR.out.cell 7 (.int .i64 (s)) rfl
      have c2 := HR.out.cell 8 (.int .i64 1) rfl
      have c3 := HR.out.cell 9 (.int .i64 0) rfl
      have f3 := HR.out.frozen 9
      have hsz := HR.out.size
      go_wp2
      go_roundw
      case rel => exact ⟨4, by omega, by omega, rfl, HR.out.step 9 _ _ rfl⟩
      case measure => simp [intOf]
    · have c0 := HR.out.cell 9 (.int .i64 (2 + s)) rfl
      have c1 := HR.out.cell 10 (.int .i64 (l)) rfl
      have c2 := HR.out.cell 11 (.int .i64 6) rfl
      have c3 := HR.out.cell 12 (.int .i64 0) rfl
      have f3 := HR.out.frozen 12
      have hsz := HR.out.size
      go_wp2
      go_roundw
      case rel => exact ⟨5, by omega, by omega, rfl, HR.out.step 12 _ _ rfl⟩
      case measure => simp [intOf]
    · have c0 := HR.out.cell 12 (.int .i64 (2 + s + l * 6)) rfl
      have c1 := HR.out.cell 13 (.int .i64 (t)) rfl
      have c2 := HR.out.cell 14 (.int .i64 2) rfl
      have c3 := HR.out.cell 15 (.int .i64 0) rfl
      have f3 := HR.out.frozen 15
      have hsz := HR.out.size
      go_wp2
      go_roundw
      case rel => exact ⟨6, by omega, by omega, rfl, HR.out.step 15 _ _ rfl⟩
      case measure => simp [intOf]
    · have c0 := HR.out.cell 15 (.int .i64 (2 + s + l * 6 + t * 2)) rfl
      have c1 := HR.out.cell 16 (.int .i64 (t * l)) rfl
      have c2 := HR.out.cell 17 (.int .i64 2) rfl
      have c3 := HR.out.cell 18 (.int .i64 0) rfl
      have f3 := HR.out.frozen 18
      have hsz := HR.out.size
      go_wp2
      go_roundw
      case rel => exact ⟨7, by omega, by omega, rfl, HR.out.step 18 _ _ rfl⟩
      case measure => simp [intOf]
    · have c0 := HR.out.cell 18 (.int .i64 (2 + s + l * 6 + t * 2 + t * l * 2)) rfl
      have c1 := HR.out.cell 19 (.int .i64 (t)) rfl
      have c2 := HR.out.cell 20 (.int .i64 1) rfl
      have c3 := HR.out.cell 21 (.int .i64 0) rfl
      have f3 := HR.out.frozen 21
      have hsz := HR.out.size
      go_wp2
      go_roundw
      case rel => exact ⟨8, by omega, by omega, rfl, HR.out.step 21 _ _ rfl⟩
      case measure => simp [intOf]
    · have c0 := HR.out.cell 21 (.int .i64 (2 + s + l * 6 + t * 2 + t * l * 2 + t)) rfl
      have c1 := HR.out.cell 22 (.int .i64 (c)) rfl
      have c2 := HR.out.cell 23 (.int .i64 6) rfl
      have c3 := HR.out.cell 24 (.int .i64 0) rfl
      have f3 := HR.out.frozen 24
      have hsz := HR.out.size
      go_wp2
      go_roundw
      case rel => exact ⟨9, by omega, by omega, rfl, HR.out.step 24 _ _ rfl⟩
      case measure => simp [intOf]
    · obtain ⟨hl, ⟨old, ho, hs⟩, hb⟩ := HR.out
      have HL := hid hl
      have HO := hid ho
      have HS := hid (hs.trans (PM.lay_size ⟨s, l, t, c, d⟩ 9).symm)
      clear hl ho hs
      go_wp2_with (first | (with_reducible refine wpList_load_row (o := ⟨some 52, .load 138 _, _, _, _, _⟩) rfl 138 (.tmp 3) rfl (w.heap.size + 1 + 1) (by kernel_rfl) 138 _ (0, 0) (.array 9 137) HL.out (by kernel_rfl) (by kernel_rfl) (by kernel_rfl) ?_) | (with_reducible refine wpList_store_row (o := ⟨none, .store 138 _ _, _, _, _, _⟩) rfl 138 (.tmp 2) (.tmp 52) rfl (w.heap.size + 1) (PM.lay ⟨s, l, t, c, d⟩ 9) (by kernel_rfl) (by kernel_rfl) 138 old HO.out (by kernel_rfl) HS.out (PM.lay_one _ _) ?_))
      refine bodyPost_ret (v := .agg (PM.lay ⟨s, l, t, c, d⟩ 9)) ?_ rfl ⟨rfl, below_setRow hb (by omega) _⟩
      exact results_cell_row (p := 2) (ty := 138) (by kernel_rfl) _ _ (w.heap.size + 1) 138 _ (0, 0) (.array 9 137) (by kernel_rfl) (setRow_heap _ _ _ _ _ _ HO.out) (by kernel_rfl) (by kernel_rfl) (by kernel_rfl)
theorem lay_index0 (m : PM) (w : World) : (Instr.index 138 (.agg (m.lay 9)) (.int .i64 0)).run Try.prog w = .ok (.agg #[.int .i64 (m.from_ 0), .int .i64 (m.many 0), .int .i64 (PM.each 0)]) w := by kernel_rfl
theorem lay_index1 (m : PM) (w : World) : (Instr.index 138 (.agg (m.lay 9)) (.int .i64 1)).run Try.prog w = .ok (.agg #[.int .i64 (m.from_ 1), .int .i64 (m.many 1), .int .i64 (PM.each 1)]) w := by kernel_rfl
theorem lay_index2 (m : PM) (w : World) : (Instr.index 138 (.agg (m.lay 9)) (.int .i64 2)).run Try.prog w = .ok (.agg #[.int .i64 (m.from_ 2), .int .i64 (m.many 2), .int .i64 (PM.each 2)]) w := by kernel_rfl
theorem lay_index3 (m : PM) (w : World) : (Instr.index 138 (.agg (m.lay 9)) (.int .i64 3)).run Try.prog w = .ok (.agg #[.int .i64 (m.from_ 3), .int .i64 (m.many 3), .int .i64 (PM.each 3)]) w := by kernel_rfl
theorem lay_index4 (m : PM) (w : World) : (Instr.index 138 (.agg (m.lay 9)) (.int .i64 4)).run Try.prog w = .ok (.agg #[.int .i64 (m.from_ 4), .int .i64 (m.many 4), .int .i64 (PM.each 4)]) w := by kernel_rfl
theorem lay_index5 (m : PM) (w : World) : (Instr.index 138 (.agg (m.lay 9)) (.int .i64 5)).run Try.prog w = .ok (.agg #[.int .i64 (m.from_ 5), .int .i64 (m.many 5), .int .i64 (PM.each 5)]) w := by kernel_rfl
theorem lay_index6 (m : PM) (w : World) : (Instr.index 138 (.agg (m.lay 9)) (.int .i64 6)).run Try.prog w = .ok (.agg #[.int .i64 (m.from_ 6), .int .i64 (m.many 6), .int .i64 (PM.each 6)]) w := by kernel_rfl
theorem lay_index7 (m : PM) (w : World) : (Instr.index 138 (.agg (m.lay 9)) (.int .i64 7)).run Try.prog w = .ok (.agg #[.int .i64 (m.from_ 7), .int .i64 (m.many 7), .int .i64 (PM.each 7)]) w := by kernel_rfl
theorem lay_index8 (m : PM) (w : World) : (Instr.index 138 (.agg (m.lay 9)) (.int .i64 8)).run Try.prog w = .ok (.agg #[.int .i64 (m.from_ 8), .int .i64 (m.many 8), .int .i64 (PM.each 8)]) w := by kernel_rfl
theorem lay_index (m : PM) (k : Nat) (hk : k < 9) (w : World) :
    (Instr.index 138 (.agg (m.lay 9)) (.int .i64 (k : Int))).run Try.prog w = .ok (.agg #[.int .i64 (m.from_ k), .int .i64 (m.many k), .int .i64 (PM.each k)]) w := by
  have : k = 0 ∨ k = 1 ∨ k = 2 ∨ k = 3 ∨ k = 4 ∨ k = 5 ∨ k = 6 ∨ k = 7 ∨ k = 8 := by omega
  rcases this with rfl | rfl | rfl | rfl | rfl | rfl | rfl | rfl | rfl
  · exact lay_index0 m w
  · exact lay_index1 m w
  · exact lay_index2 m w
  · exact lay_index3 m w
  · exact lay_index4 m w
  · exact lay_index5 m w
  · exact lay_index6 m w
  · exact lay_index7 m w
  · exact lay_index8 m w

set_option maxHeartbeats 1000000 in
theorem Size_any (m : PM) (w : World) :
    Calls Try.prog 70 #[m.v] w fun e w' => e = .returned (.int .i64 m.size) ∧ Below w.heap.size w w' := by
  by_cases h : m.Ok
  · have hm := pmayB_yes h
    have HO := hid h
    have HS := hid (m.size_ok h)
    have hb := m.bounds h 8 (by decide)
    have hd1 := h.d1
    have hd2 := h.d2
    have hx := lay_index8 m
    have e8 : m.many 8 = m.d := rfl
    have e9 : PM.each 8 = 2 := rfl
    rw [e8, e9] at hx
    obtain ⟨b1, b2, _, _, _, _⟩ := hb
    generalize m.from_ 8 = F at *
    clear h e8 e9
    obtain ⟨s, l, t, c, d⟩ := m
    simp only at hd1 hd2 hx
    show Calls _ _ #[.agg #[.int .i64 s, .int .i64 l, .int .i64 t, .int .i64 c, .int .i64 d]] _ _
    go_enter Try.func70, Try.ntmps70
    go_wp2_with (first | (go_at_call 104; refine (may_any ⟨s, l, t, c, d⟩ _).mono ?_; rintro e w1 ⟨rfl, hb1⟩; obtain ⟨hc1, hf1, hz1⟩ := bcell hb1 (size_alloc1 _ _); have HB1 := hid hb1; clear hb1) | (go_at_call 105; refine (rows_any ⟨s, l, t, c, d⟩ _ HO.out).mono ?_; rintro e w2 ⟨rfl, hb2⟩))
    go_ret
    exact ⟨by rw [HS.out]; rfl, bnew (bthen (bthen (bnew (bid w) _) HB1.out) hb2) _⟩
  · have hm := pmayB_no h
    have HS : Hid (m.size = 0) := hid (by simp [PM.size, h])
    clear h
    obtain ⟨s, l, t, c, d⟩ := m
    show Calls _ _ #[.agg #[.int .i64 s, .int .i64 l, .int .i64 t, .int .i64 c, .int .i64 d]] _ _
    go_enter Try.func70, Try.ntmps70
    go_wp2_with (go_at_call 104; refine (may_any ⟨s, l, t, c, d⟩ _).mono ?_; rintro e w1 ⟨rfl, hb1⟩)
    go_ret
    exact ⟨by rw [HS.out]; rfl, ((Below.refl _ _).alloc (Nat.le_refl _) _).trans (hb1.mono (by simp))⟩

set_option maxHeartbeats 1000000 in
theorem spot_no (m : PM) (K i p : Int) (w : World) (h : ¬ m.Ok) :
    Calls Try.prog 66 #[m.v, .int .i64 K, .int .i64 i, .int .i64 p] w fun e w' => e = .returned (.int .i64 (-1)) ∧ Below w.heap.size w w' := by
  have hm := pmayB_no h
  clear h
  obtain ⟨s, l, t, c, d⟩ := m
  show Calls _ _ #[.agg #[.int .i64 s, .int .i64 l, .int .i64 t, .int .i64 c, .int .i64 d], _, _, _] _ _
  go_enter Try.func66, Try.ntmps66
  go_wp2_with (go_at_call 104; refine (may_any ⟨s, l, t, c, d⟩ _).mono ?_; rintro e w1 ⟨rfl, hb1⟩; obtain ⟨hc1, hf1, hz1⟩ := bcell hb1 (size_alloc1 _ _); have HB1 := hid hb1; clear hb1)
  go_ret
  exact ⟨rfl, bthen (bnew (bid w) _) HB1.out⟩

set_option maxHeartbeats 1000000 in
theorem spot_out (m : PM) (k : Nat) (hk : k < 9) (i p : Int) (w : World) (h : m.Ok) (ho : inB i 0 (m.many k - 1) = false ∨ inB i 0 (m.many k - 1) = true ∧ inB p 0 (PM.each k - 1) = false) :
    Calls Try.prog 66 #[m.v, .int .i64 (k : Int), .int .i64 i, .int .i64 p] w fun e w' => e = .returned (.int .i64 (-1)) ∧ Below w.heap.size w w' := by
  have hm := pmayB_yes h
  have HO := hid h
  obtain ⟨b1, b2, b3, b4, b5, b6⟩ := m.bounds h k hk
  have hx := lay_index m k hk
  generalize m.from_ k = F at *
  generalize m.many k = M at *
  generalize PM.each k = E at *
  clear h
  obtain ⟨s, l, t, c, d⟩ := m
  show Calls _ _ #[.agg #[.int .i64 s, .int .i64 l, .int .i64 t, .int .i64 c, .int .i64 d], _, _, _] _ _
  rcases ho with ho | ⟨ho, hp⟩
  all_goals
    go_enter Try.func66, Try.ntmps66
    go_wp2_with (first | (go_at_call 104; refine (may_any ⟨s, l, t, c, d⟩ _).mono ?_; rintro e w1 ⟨rfl, hb1⟩; obtain ⟨hc1, hf1, hz1⟩ := bcell hb1 (size_alloc1 _ _); have HB1 := hid hb1; clear hb1) | (go_at_call 105; refine (rows_any ⟨s, l, t, c, d⟩ _ HO.out).mono ?_; rintro e w2 ⟨rfl, hb2⟩; have HB2 := hid hb2; clear hb2) | (go_at_call 106; refine (within_any _ _ _ _).mono ?_; rintro e w' ⟨rfl, rfl⟩))
    go_ret
    exact ⟨rfl, bnew (bthen (bthen (bnew (bid w) _) HB1.out) HB2.out) _⟩

set_option maxHeartbeats 1000000 in
theorem spot_in (m : PM) (k : Nat) (hk : k < 9) (i p : Int) (w : World) (h : m.Ok) (h0 : 0 ≤ i) (h1 : i < m.many k) (h2 : 0 ≤ p) (h3 : p < PM.each k) :
    Calls Try.prog 66 #[m.v, .int .i64 (k : Int), .int .i64 i, .int .i64 p] w fun e w' => e = .returned (.int .i64 (m.from_ k + i * PM.each k + p)) ∧ Below w.heap.size w w' := by
  have hm := pmayB_yes h
  have HO := hid h
  obtain ⟨b1, b2, b3, b4, b5, b6⟩ := m.bounds h k hk
  obtain ⟨g1, g2⟩ := mul_bounds h0 h1 b4 b5 b6
  have ho := inB_yes (n := i) (a := 0) (b := m.many k - 1) h0 (by omega)
  have hp := inB_yes (n := p) (a := 0) (b := PM.each k - 1) h2 (by omega)
  have hx := lay_index m k hk
  generalize m.from_ k = F at *
  generalize m.many k = M at *
  generalize PM.each k = E at *
  clear h
  obtain ⟨s, l, t, c, d⟩ := m
  show Calls _ _ #[.agg #[.int .i64 s, .int .i64 l, .int .i64 t, .int .i64 c, .int .i64 d], _, _, _] _ _
  go_enter Try.func66, Try.ntmps66
  go_wp2_with (first | (go_at_call 104; refine (may_any ⟨s, l, t, c, d⟩ _).mono ?_; rintro e w1 ⟨rfl, hb1⟩; obtain ⟨hc1, hf1, hz1⟩ := bcell hb1 (size_alloc1 _ _); have HB1 := hid hb1; clear hb1) | (go_at_call 105; refine (rows_any ⟨s, l, t, c, d⟩ _ HO.out).mono ?_; rintro e w2 ⟨rfl, hb2⟩; have HB2 := hid hb2; clear hb2) | (go_at_call 106; refine (within_any _ _ _ _).mono ?_; rintro e w' ⟨rfl, rfl⟩))
  go_ret
  exact ⟨rfl, bnew (bthen (bthen (bnew (bid w) _) HB1.out) HB2.out) _⟩

/-- The place of a part of the i-th thing of a kind, or -1. -/
theorem spot_any (m : PM) (k : Nat) (hk : k < 9) (K : Int) (hK : K = (k : Int)) (i p : Int) (w : World) :
    Calls Try.prog 66 #[m.v, .int .i64 K, .int .i64 i, .int .i64 p] w fun e w' => e = .returned (.int .i64 (m.at_ k i p)) ∧ Below w.heap.size w w' := by
  subst hK
  by_cases h : m.Ok
  · by_cases hi : 0 ≤ i ∧ i < m.many k
    · by_cases hp : 0 ≤ p ∧ p < PM.each k
      · rw [PM.at_in h hi.1 hi.2 hp.1 hp.2]
        exact spot_in m k hk i p w h hi.1 hi.2 hp.1 hp.2
      · rw [PM.at_out (by omega)]
        exact spot_out m k hk i p w h (.inr ⟨inB_yes hi.1 (by omega), inB_no (by omega)⟩)
    · rw [PM.at_out (by omega)]
      exact spot_out m k hk i p w h (.inl (inB_no (by omega)))
  · rw [PM.at_out (.inl h)]
    exact spot_no m _ i p w h

set_option maxHeartbeats 400000 in
theorem Clock_any (m : PM) (w : World) :
    Calls Try.prog 119 #[m.v] w fun e w' => e = .returned (.int .i64 (m.at_ 0 0 0)) ∧ Below w.heap.size w w' := by
  obtain ⟨s, l, t, c, d⟩ := m
  show Calls _ _ #[.agg #[.int .i64 s, .int .i64 l, .int .i64 t, .int .i64 c, .int .i64 d]] _ _
  go_enter Try.func119, Try.ntmps119
  go_wp2_with (go_at_call 66; refine (spot_any ⟨s, l, t, c, d⟩ 0 (by decide) _ rfl _ _ _).mono ?_; rintro e w1 ⟨rfl, hb1⟩)
  go_ret
  exact ⟨rfl, bthen (bnew (bid w) _) hb1⟩

set_option maxHeartbeats 400000 in
theorem Seq_any (m : PM) (w : World) :
    Calls Try.prog 23 #[m.v] w fun e w' => e = .returned (.int .i64 (m.at_ 1 0 0)) ∧ Below w.heap.size w w' := by
  obtain ⟨s, l, t, c, d⟩ := m
  show Calls _ _ #[.agg #[.int .i64 s, .int .i64 l, .int .i64 t, .int .i64 c, .int .i64 d]] _ _
  go_enter Try.func23, Try.ntmps23
  go_wp2_with (go_at_call 66; refine (spot_any ⟨s, l, t, c, d⟩ 1 (by decide) _ rfl _ _ _).mono ?_; rintro e w1 ⟨rfl, hb1⟩)
  go_ret
  exact ⟨rfl, bthen (bnew (bid w) _) hb1⟩

set_option maxHeartbeats 400000 in
theorem Stripe_any (m : PM) (i : Int) (w : World) :
    Calls Try.prog 29 #[m.v, .int .i64 i] w fun e w' => e = .returned (.int .i64 (m.at_ 2 i 0)) ∧ Below w.heap.size w w' := by
  obtain ⟨s, l, t, c, d⟩ := m
  show Calls _ _ #[.agg #[.int .i64 s, .int .i64 l, .int .i64 t, .int .i64 c, .int .i64 d], _] _ _
  go_enter Try.func29, Try.ntmps29
  go_wp2_with (go_at_call 66; refine (spot_any ⟨s, l, t, c, d⟩ 2 (by decide) _ rfl _ _ _).mono ?_; rintro e w1 ⟨rfl, hb1⟩)
  go_ret
  exact ⟨rfl, bthen (bnew (bid w) _) hb1⟩

set_option maxHeartbeats 400000 in
theorem Lock_any (m : PM) (i p : Int) (w : World) :
    Calls Try.prog 32 #[m.v, .int .i64 i, .int .i64 p] w fun e w' => e = .returned (.int .i64 (m.at_ 3 i p)) ∧ Below w.heap.size w w' := by
  obtain ⟨s, l, t, c, d⟩ := m
  show Calls _ _ #[.agg #[.int .i64 s, .int .i64 l, .int .i64 t, .int .i64 c, .int .i64 d], _, _] _ _
  go_enter Try.func32, Try.ntmps32
  go_wp2_with (go_at_call 66; refine (spot_any ⟨s, l, t, c, d⟩ 3 (by decide) _ rfl _ _ _).mono ?_; rintro e w1 ⟨rfl, hb1⟩)
  go_ret
  exact ⟨rfl, bthen (bnew (bid w) _) hb1⟩

set_option maxHeartbeats 400000 in
theorem Thread_any (m : PM) (i p : Int) (w : World) :
    Calls Try.prog 25 #[m.v, .int .i64 i, .int .i64 p] w fun e w' => e = .returned (.int .i64 (m.at_ 4 i p)) ∧ Below w.heap.size w w' := by
  obtain ⟨s, l, t, c, d⟩ := m
  show Calls _ _ #[.agg #[.int .i64 s, .int .i64 l, .int .i64 t, .int .i64 c, .int .i64 d], _, _] _ _
  go_enter Try.func25, Try.ntmps25
  go_wp2_with (go_at_call 66; refine (spot_any ⟨s, l, t, c, d⟩ 4 (by decide) _ rfl _ _ _).mono ?_; rintro e w1 ⟨rfl, hb1⟩)
  go_ret
  exact ⟨rfl, bthen (bnew (bid w) _) hb1⟩

set_option maxHeartbeats 400000 in
theorem Data_any (m : PM) (i : Int) (w : World) :
    Calls Try.prog 20 #[m.v, .int .i64 i] w fun e w' => e = .returned (.int .i64 (m.at_ 8 i 0)) ∧ Below w.heap.size w w' := by
  obtain ⟨s, l, t, c, d⟩ := m
  show Calls _ _ #[.agg #[.int .i64 s, .int .i64 l, .int .i64 t, .int .i64 c, .int .i64 d], _] _ _
  go_enter Try.func20, Try.ntmps20
  go_wp2_with (go_at_call 66; refine (spot_any ⟨s, l, t, c, d⟩ 8 (by decide) _ rfl _ _ _).mono ?_; rintro e w1 ⟨rfl, hb1⟩)
  go_ret
  exact ⟨rfl, bthen (bnew (bid w) _) hb1⟩

end Go.Proofs.Ytjfinnjmcnjciaa
