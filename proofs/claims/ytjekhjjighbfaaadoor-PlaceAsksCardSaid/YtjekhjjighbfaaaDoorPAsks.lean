/-
  PlaceAsks: where each word stands, and what it is called, is what the document says.
-/
import Derived.Test.YtjekhjjighbfaaaDoorRAny
import Derived.Test.YtjekhjjighbfaaaDoorNear
namespace Go.Proofs.YtjekhjjighbfaaaDoor
open Go.RowKit
attribute [local go_sem] Later.cell Later.frozen

theorem blk_set {w : World} {b : Nat} {cs : Array Value} {T : TypeId} {f : Nat × Nat} (h : w.heap[b]? = some (.cells cs T f)) (o : Nat) (v : Value) :
    (w.setCell ⟨b, o, none⟩ v).heap[b]? = some (.cells (cs.setIfInBounds o v) T f) := by
  simp [World.setCell, Array.getElem?_modify, h]
theorem MapAt.over {T : TypeId} {w : World} {b : Nat} {m : PM} (h : MapAt T w b m) (s l t c d : Int) :
    MapAt T (((((w.setCell ⟨b, 0, none⟩ (.int .i64 s)).setCell ⟨b, 1, none⟩ (.int .i64 l)).setCell ⟨b, 2, none⟩ (.int .i64 t)).setCell ⟨b, 3, none⟩ (.int .i64 c)).setCell ⟨b, 4, none⟩ (.int .i64 d)) b ⟨s, l, t, c, d⟩ := by
  exact blk_set (blk_set (blk_set (blk_set (blk_set h 0 _) 1 _) 2 _) 3 _) 4 _

theorem bdrewN {w W : World} {n : Nat} (h : Below w.heap.size w W) : Below w.heap.size w (W.drewN n) := ⟨h.os, h.tape, h.output, h.size, h.block⟩

/-- Block b holds the five numbers of m. -/
def FactsAt (w : World) (b : Nat) (m : PM) : Prop :=
  w.cell? ⟨b, 0, none⟩ = some (.int .i64 m.s) ∧ w.cell? ⟨b, 1, none⟩ = some (.int .i64 m.l) ∧ w.cell? ⟨b, 2, none⟩ = some (.int .i64 m.t) ∧ w.cell? ⟨b, 3, none⟩ = some (.int .i64 m.c) ∧ w.cell? ⟨b, 4, none⟩ = some (.int .i64 m.d) ∧ b < w.heap.size
theorem FactsAt.below {w w' : World} {b : Nat} {m : PM} (h : FactsAt w b m) (hb : Below w.heap.size w w') : FactsAt w' b m := by
  obtain ⟨h0, h1, h2, h3, h4, h5⟩ := h
  exact ⟨(hb.cell (p := ⟨b, 0, none⟩) h5).trans h0, (hb.cell (p := ⟨b, 1, none⟩) h5).trans h1, (hb.cell (p := ⟨b, 2, none⟩) h5).trans h2, (hb.cell (p := ⟨b, 3, none⟩) h5).trans h3, (hb.cell (p := ⟨b, 4, none⟩) h5).trans h4, Nat.lt_of_lt_of_le h5 hb.size⟩
theorem FactsAt.of_map {T : TypeId} {w : World} {b : Nat} {m : PM} (h : MapAt T w b m) : FactsAt w b m := by
  obtain ⟨s, l, t, c, d⟩ := m
  exact h.facts
theorem FactsAt.facts {w : World} {b : Nat} {s l t c d : Int} (h : FactsAt w b ⟨s, l, t, c, d⟩) :
    w.cell? ⟨b, 0, none⟩ = some (.int .i64 s) ∧ w.cell? ⟨b, 1, none⟩ = some (.int .i64 l) ∧ w.cell? ⟨b, 2, none⟩ = some (.int .i64 t) ∧ w.cell? ⟨b, 3, none⟩ = some (.int .i64 c) ∧ w.cell? ⟨b, 4, none⟩ = some (.int .i64 d) ∧ b < w.heap.size := h

/-- What is asked of both. -/
def PM.row (m : PM) (i j p : Int) : List Int :=
  [m.size, m.at_ 0 0 0, m.at_ 1 0 0, m.at_ 2 i 0, m.at_ 3 i p, m.at_ 4 i p, m.node i j p, m.at_ 6 i 0, m.at_ 7 i p, m.at_ 8 i 0, m.at_ 8 i 1, m.hash i]

set_option maxRecDepth 100000 in
set_option maxHeartbeats 8000000 in
theorem asks_near (k0 k1 k2 k3 k4 i j p : Int) (w : World) :
    Calls Tryd.prog 3 #[.agg #[.int .i64 k0, .int .i64 k1, .int .i64 k2, .int .i64 k3, .int .i64 k4], .bool true, .int .i64 i, .int .i64 j, .int .i64 p] w fun e w' => e = .returned (.bool true) ∧ Below w.heap.size w w' := by
  go_enter Tryd.func3, Tryd.ntmps3
  go_wp2_with (first | (go_at_call 8; refine (Near_any _ _ _ _ _ _).mono ?_; rintro e w1 ⟨rfl, hb1⟩; obtain ⟨hc1, hf1, hz1⟩ := bcell hb1 (size_alloc2 _ _ _); have hz4 : w.heap.size + 1 < w1.heap.size := hz1; generalize near k0 k1 k2 k3 k4 = m0; obtain ⟨s, l, t, c, d⟩ := m0; have HB1 := hid hb1; have HM1 := hid (MapAt.over ((show MapAt 24 _ (w.heap.size + 1) ⟨k0, k1, k2, k3, k4⟩ from (by have h := MapAt.new 24 (w.alloc (.cells #[.int .i64 k0, .int .i64 k1, .int .i64 k2, .int .i64 k3, .int .i64 k4] 22)) ⟨k0, k1, k2, k3, k4⟩; rw [size_alloc1] at h; exact h)).below hb1) s l t c d); clear hb1) | (go_at_call 9; refine (Ref_any ⟨s, l, t, c, d⟩ _).mono ?_; rintro e w2 ⟨rfl, hb2⟩; have F3 := hid (show FactsAt w2 (w.heap.size + 1) ⟨s, l, t, c, d⟩ ∧ Below w.heap.size w w2 from ⟨FactsAt.below (.of_map HM1.out) hb2, bthen (((((bthen (bnew (bnew (bid w) _) _) HB1.out).setCell (Nat.le_succ _) _).setCell (Nat.le_succ _) _).setCell (Nat.le_succ _) _).setCell (Nat.le_succ _) _ |>.setCell (Nat.le_succ _) _) hb2⟩); clear hb2))
  clear hc1 hf1 hz1 hz4 HB1 HM1
  have F4 : Hid (FactsAt (w2.alloc (.cells #[.int .i64 s, .int .i64 l, .int .i64 t, .int .i64 c, .int .i64 d] 26)) (w.heap.size + 1) ⟨s, l, t, c, d⟩ ∧ FactsAt (w2.alloc (.cells #[.int .i64 s, .int .i64 l, .int .i64 t, .int .i64 c, .int .i64 d] 26)) w2.heap.size ⟨s, l, t, c, d⟩ ∧ Below w.heap.size w (w2.alloc (.cells #[.int .i64 s, .int .i64 l, .int .i64 t, .int .i64 c, .int .i64 d] 26))) :=
    hid ⟨F3.out.1.below (bnew (bid w2) _), .of_map (MapAt.new 26 w2 ⟨s, l, t, c, d⟩), bnew F3.out.2 _⟩
  clear F3
  generalize w2.alloc (.cells #[.int .i64 s, .int .i64 l, .int .i64 t, .int .i64 c, .int .i64 d] 26) = X at F4 ⊢
  generalize w2.heap.size = b2 at F4 ⊢
  generalize w.heap.size + 1 = b1 at F4 ⊢
  obtain ⟨m0, m1, m2, m3, m4, m5⟩ := F4.out.1.facts
  refine wp_region_later_tail 38 (by kernel_rfl) (by kernel_rfl) ?_
  simp only [List.take_succ_cons, List.take_zero, List.drop_succ_cons, List.drop_zero]
  repeat (go_big_quiet_step (first | (go_at_call 10; with_reducible exact later_call (Size_any ⟨s, l, t, c, d⟩ _)) | (go_at_call 11; with_reducible exact later_call (Clock_any ⟨s, l, t, c, d⟩ _)) | (go_at_call 12; with_reducible exact later_call (Seq_any ⟨s, l, t, c, d⟩ _)) | (go_at_call 13; with_reducible exact later_call (Stripe_any ⟨s, l, t, c, d⟩ _ _)) | (go_at_call 14; with_reducible exact later_call (Lock_any ⟨s, l, t, c, d⟩ _ _ _)) | (go_at_call 15; with_reducible exact later_call (Thread_any ⟨s, l, t, c, d⟩ _ _ _)) | (go_at_call 16; with_reducible exact later_call (Node_any ⟨s, l, t, c, d⟩ _ _ _ _)) | (go_at_call 17; with_reducible exact later_call (Flag_any ⟨s, l, t, c, d⟩ _ _)) | (go_at_call 18; with_reducible exact later_call (Cond_any ⟨s, l, t, c, d⟩ _ _ _)) | (go_at_call 19; with_reducible exact later_call (Data_any ⟨s, l, t, c, d⟩ _ _)) | (go_at_call 20; with_reducible exact later_call (Owner_any ⟨s, l, t, c, d⟩ _ _)) | (go_at_call 21; with_reducible exact later_call (Hash_any ⟨s, l, t, c, d⟩ _ _))))
  refine wpQuiet_nil ?_
  rintro wB ⟨x, hx⟩
  have hwB := x.below
  rw [← hx] at hwB
  clear hx x m0 m1 m2 m3 m4 m5
  go_wp2
  have G1 : Hid (FactsAt (wB.alloc (.cells #[.int .i64 (PM.size ⟨s, l, t, c, d⟩), .int .i64 (PM.at_ ⟨s, l, t, c, d⟩ 0 0 0), .int .i64 (PM.at_ ⟨s, l, t, c, d⟩ 1 0 0), .int .i64 (PM.at_ ⟨s, l, t, c, d⟩ 2 i 0), .int .i64 (PM.at_ ⟨s, l, t, c, d⟩ 3 i p), .int .i64 (PM.at_ ⟨s, l, t, c, d⟩ 4 i p), .int .i64 (PM.node ⟨s, l, t, c, d⟩ i j p), .int .i64 (PM.at_ ⟨s, l, t, c, d⟩ 6 i 0), .int .i64 (PM.at_ ⟨s, l, t, c, d⟩ 7 i p), .int .i64 (PM.at_ ⟨s, l, t, c, d⟩ 8 i 0), .int .i64 (PM.at_ ⟨s, l, t, c, d⟩ 8 i 1), .int .i64 (PM.hash ⟨s, l, t, c, d⟩ i)] 3)) b1 ⟨s, l, t, c, d⟩ ∧ FactsAt (wB.alloc (.cells #[.int .i64 (PM.size ⟨s, l, t, c, d⟩), .int .i64 (PM.at_ ⟨s, l, t, c, d⟩ 0 0 0), .int .i64 (PM.at_ ⟨s, l, t, c, d⟩ 1 0 0), .int .i64 (PM.at_ ⟨s, l, t, c, d⟩ 2 i 0), .int .i64 (PM.at_ ⟨s, l, t, c, d⟩ 3 i p), .int .i64 (PM.at_ ⟨s, l, t, c, d⟩ 4 i p), .int .i64 (PM.node ⟨s, l, t, c, d⟩ i j p), .int .i64 (PM.at_ ⟨s, l, t, c, d⟩ 6 i 0), .int .i64 (PM.at_ ⟨s, l, t, c, d⟩ 7 i p), .int .i64 (PM.at_ ⟨s, l, t, c, d⟩ 8 i 0), .int .i64 (PM.at_ ⟨s, l, t, c, d⟩ 8 i 1), .int .i64 (PM.hash ⟨s, l, t, c, d⟩ i)] 3)) b2 ⟨s, l, t, c, d⟩ ∧ Below w.heap.size w (wB.alloc (.cells #[.int .i64 (PM.size ⟨s, l, t, c, d⟩), .int .i64 (PM.at_ ⟨s, l, t, c, d⟩ 0 0 0), .int .i64 (PM.at_ ⟨s, l, t, c, d⟩ 1 0 0), .int .i64 (PM.at_ ⟨s, l, t, c, d⟩ 2 i 0), .int .i64 (PM.at_ ⟨s, l, t, c, d⟩ 3 i p), .int .i64 (PM.at_ ⟨s, l, t, c, d⟩ 4 i p), .int .i64 (PM.node ⟨s, l, t, c, d⟩ i j p), .int .i64 (PM.at_ ⟨s, l, t, c, d⟩ 6 i 0), .int .i64 (PM.at_ ⟨s, l, t, c, d⟩ 7 i p), .int .i64 (PM.at_ ⟨s, l, t, c, d⟩ 8 i 0), .int .i64 (PM.at_ ⟨s, l, t, c, d⟩ 8 i 1), .int .i64 (PM.hash ⟨s, l, t, c, d⟩ i)] 3)) ∧ Ints 3 (wB.alloc (.cells #[.int .i64 (PM.size ⟨s, l, t, c, d⟩), .int .i64 (PM.at_ ⟨s, l, t, c, d⟩ 0 0 0), .int .i64 (PM.at_ ⟨s, l, t, c, d⟩ 1 0 0), .int .i64 (PM.at_ ⟨s, l, t, c, d⟩ 2 i 0), .int .i64 (PM.at_ ⟨s, l, t, c, d⟩ 3 i p), .int .i64 (PM.at_ ⟨s, l, t, c, d⟩ 4 i p), .int .i64 (PM.node ⟨s, l, t, c, d⟩ i j p), .int .i64 (PM.at_ ⟨s, l, t, c, d⟩ 6 i 0), .int .i64 (PM.at_ ⟨s, l, t, c, d⟩ 7 i p), .int .i64 (PM.at_ ⟨s, l, t, c, d⟩ 8 i 0), .int .i64 (PM.at_ ⟨s, l, t, c, d⟩ 8 i 1), .int .i64 (PM.hash ⟨s, l, t, c, d⟩ i)] 3)) 0 wB.heap.size 12 (PM.row ⟨s, l, t, c, d⟩ i j p)) :=
    hid ⟨(F4.out.1.below hwB).below (bnew (bid wB) _), (F4.out.2.1.below hwB).below (bnew (bid wB) _), bnew (bthen F4.out.2.2 hwB) _, Ints.lit (PM.row ⟨s, l, t, c, d⟩ i j p) wB 3 _ rfl (Nat.zero_le _) (by simp [maxLen, PM.row])⟩
  clear F4 hwB
  generalize wB.alloc (.cells #[.int .i64 (PM.size ⟨s, l, t, c, d⟩), .int .i64 (PM.at_ ⟨s, l, t, c, d⟩ 0 0 0), .int .i64 (PM.at_ ⟨s, l, t, c, d⟩ 1 0 0), .int .i64 (PM.at_ ⟨s, l, t, c, d⟩ 2 i 0), .int .i64 (PM.at_ ⟨s, l, t, c, d⟩ 3 i p), .int .i64 (PM.at_ ⟨s, l, t, c, d⟩ 4 i p), .int .i64 (PM.node ⟨s, l, t, c, d⟩ i j p), .int .i64 (PM.at_ ⟨s, l, t, c, d⟩ 6 i 0), .int .i64 (PM.at_ ⟨s, l, t, c, d⟩ 7 i p), .int .i64 (PM.at_ ⟨s, l, t, c, d⟩ 8 i 0), .int .i64 (PM.at_ ⟨s, l, t, c, d⟩ 8 i 1), .int .i64 (PM.hash ⟨s, l, t, c, d⟩ i)] 3) = Y at G1 ⊢
  generalize wB.heap.size = ga at G1 ⊢
  obtain ⟨m0, m1, m2, m3, m4, m5⟩ := G1.out.2.1.facts
  refine wp_region_later_tail 38 (by kernel_rfl) (by kernel_rfl) ?_
  simp only [List.take_succ_cons, List.take_zero, List.drop_succ_cons, List.drop_zero]
  repeat (go_big_quiet_step (first | (go_at_call 22; with_reducible exact later_call (refSize_any ⟨s, l, t, c, d⟩ _)) | (go_at_call 23; with_reducible exact later_call (refClock_any ⟨s, l, t, c, d⟩ _)) | (go_at_call 24; with_reducible exact later_call (refSeq_any ⟨s, l, t, c, d⟩ _)) | (go_at_call 25; with_reducible exact later_call (refStripe_any ⟨s, l, t, c, d⟩ _ _)) | (go_at_call 26; with_reducible exact later_call (refLock_any ⟨s, l, t, c, d⟩ _ _ _)) | (go_at_call 27; with_reducible exact later_call (refThread_any ⟨s, l, t, c, d⟩ _ _ _)) | (go_at_call 28; with_reducible exact later_call (refNode_any ⟨s, l, t, c, d⟩ _ _ _ _)) | (go_at_call 29; with_reducible exact later_call (refFlag_any ⟨s, l, t, c, d⟩ _ _)) | (go_at_call 30; with_reducible exact later_call (refCond_any ⟨s, l, t, c, d⟩ _ _ _)) | (go_at_call 31; with_reducible exact later_call (refData_any ⟨s, l, t, c, d⟩ _ _)) | (go_at_call 32; with_reducible exact later_call (refOwner_any ⟨s, l, t, c, d⟩ _ _)) | (go_at_call 33; with_reducible exact later_call (refHash_any ⟨s, l, t, c, d⟩ _ _))))
  refine wpQuiet_nil ?_
  rintro wC ⟨x, hx⟩
  have hwC := x.below
  rw [← hx] at hwC
  clear hx x m0 m1 m2 m3 m4 m5
  go_wp2
  have G2 : Hid (FactsAt (wC.alloc (.cells #[.int .i64 (PM.size ⟨s, l, t, c, d⟩), .int .i64 (PM.at_ ⟨s, l, t, c, d⟩ 0 0 0), .int .i64 (PM.at_ ⟨s, l, t, c, d⟩ 1 0 0), .int .i64 (PM.at_ ⟨s, l, t, c, d⟩ 2 i 0), .int .i64 (PM.at_ ⟨s, l, t, c, d⟩ 3 i p), .int .i64 (PM.at_ ⟨s, l, t, c, d⟩ 4 i p), .int .i64 (PM.node ⟨s, l, t, c, d⟩ i j p), .int .i64 (PM.at_ ⟨s, l, t, c, d⟩ 6 i 0), .int .i64 (PM.at_ ⟨s, l, t, c, d⟩ 7 i p), .int .i64 (PM.at_ ⟨s, l, t, c, d⟩ 8 i 0), .int .i64 (PM.at_ ⟨s, l, t, c, d⟩ 8 i 1), .int .i64 (PM.hash ⟨s, l, t, c, d⟩ i)] 3)) b1 ⟨s, l, t, c, d⟩ ∧ FactsAt (wC.alloc (.cells #[.int .i64 (PM.size ⟨s, l, t, c, d⟩), .int .i64 (PM.at_ ⟨s, l, t, c, d⟩ 0 0 0), .int .i64 (PM.at_ ⟨s, l, t, c, d⟩ 1 0 0), .int .i64 (PM.at_ ⟨s, l, t, c, d⟩ 2 i 0), .int .i64 (PM.at_ ⟨s, l, t, c, d⟩ 3 i p), .int .i64 (PM.at_ ⟨s, l, t, c, d⟩ 4 i p), .int .i64 (PM.node ⟨s, l, t, c, d⟩ i j p), .int .i64 (PM.at_ ⟨s, l, t, c, d⟩ 6 i 0), .int .i64 (PM.at_ ⟨s, l, t, c, d⟩ 7 i p), .int .i64 (PM.at_ ⟨s, l, t, c, d⟩ 8 i 0), .int .i64 (PM.at_ ⟨s, l, t, c, d⟩ 8 i 1), .int .i64 (PM.hash ⟨s, l, t, c, d⟩ i)] 3)) b2 ⟨s, l, t, c, d⟩ ∧ Below w.heap.size w (wC.alloc (.cells #[.int .i64 (PM.size ⟨s, l, t, c, d⟩), .int .i64 (PM.at_ ⟨s, l, t, c, d⟩ 0 0 0), .int .i64 (PM.at_ ⟨s, l, t, c, d⟩ 1 0 0), .int .i64 (PM.at_ ⟨s, l, t, c, d⟩ 2 i 0), .int .i64 (PM.at_ ⟨s, l, t, c, d⟩ 3 i p), .int .i64 (PM.at_ ⟨s, l, t, c, d⟩ 4 i p), .int .i64 (PM.node ⟨s, l, t, c, d⟩ i j p), .int .i64 (PM.at_ ⟨s, l, t, c, d⟩ 6 i 0), .int .i64 (PM.at_ ⟨s, l, t, c, d⟩ 7 i p), .int .i64 (PM.at_ ⟨s, l, t, c, d⟩ 8 i 0), .int .i64 (PM.at_ ⟨s, l, t, c, d⟩ 8 i 1), .int .i64 (PM.hash ⟨s, l, t, c, d⟩ i)] 3)) ∧ Ints 3 (wC.alloc (.cells #[.int .i64 (PM.size ⟨s, l, t, c, d⟩), .int .i64 (PM.at_ ⟨s, l, t, c, d⟩ 0 0 0), .int .i64 (PM.at_ ⟨s, l, t, c, d⟩ 1 0 0), .int .i64 (PM.at_ ⟨s, l, t, c, d⟩ 2 i 0), .int .i64 (PM.at_ ⟨s, l, t, c, d⟩ 3 i p), .int .i64 (PM.at_ ⟨s, l, t, c, d⟩ 4 i p), .int .i64 (PM.node ⟨s, l, t, c, d⟩ i j p), .int .i64 (PM.at_ ⟨s, l, t, c, d⟩ 6 i 0), .int .i64 (PM.at_ ⟨s, l, t, c, d⟩ 7 i p), .int .i64 (PM.at_ ⟨s, l, t, c, d⟩ 8 i 0), .int .i64 (PM.at_ ⟨s, l, t, c, d⟩ 8 i 1), .int .i64 (PM.hash ⟨s, l, t, c, d⟩ i)] 3)) 0 ga 12 (PM.row ⟨s, l, t, c, d⟩ i j p) ∧ Ints 3 (wC.alloc (.cells #[.int .i64 (PM.size ⟨s, l, t, c, d⟩), .int .i64 (PM.at_ ⟨s, l, t, c, d⟩ 0 0 0), .int .i64 (PM.at_ ⟨s, l, t, c, d⟩ 1 0 0), .int .i64 (PM.at_ ⟨s, l, t, c, d⟩ 2 i 0), .int .i64 (PM.at_ ⟨s, l, t, c, d⟩ 3 i p), .int .i64 (PM.at_ ⟨s, l, t, c, d⟩ 4 i p), .int .i64 (PM.node ⟨s, l, t, c, d⟩ i j p), .int .i64 (PM.at_ ⟨s, l, t, c, d⟩ 6 i 0), .int .i64 (PM.at_ ⟨s, l, t, c, d⟩ 7 i p), .int .i64 (PM.at_ ⟨s, l, t, c, d⟩ 8 i 0), .int .i64 (PM.at_ ⟨s, l, t, c, d⟩ 8 i 1), .int .i64 (PM.hash ⟨s, l, t, c, d⟩ i)] 3)) 0 wC.heap.size 12 (PM.row ⟨s, l, t, c, d⟩ i j p)) :=
    hid ⟨(G1.out.1.below hwC).below (bnew (bid wC) _), (G1.out.2.1.below hwC).below (bnew (bid wC) _), bnew (bthen G1.out.2.2.1 hwC) _, (G1.out.2.2.2.below hwC).below (bnew (bid wC) _), Ints.lit (PM.row ⟨s, l, t, c, d⟩ i j p) wC 3 _ rfl (Nat.zero_le _) (by simp [maxLen, PM.row])⟩
  clear G1 hwC
  generalize wC.alloc (.cells #[.int .i64 (PM.size ⟨s, l, t, c, d⟩), .int .i64 (PM.at_ ⟨s, l, t, c, d⟩ 0 0 0), .int .i64 (PM.at_ ⟨s, l, t, c, d⟩ 1 0 0), .int .i64 (PM.at_ ⟨s, l, t, c, d⟩ 2 i 0), .int .i64 (PM.at_ ⟨s, l, t, c, d⟩ 3 i p), .int .i64 (PM.at_ ⟨s, l, t, c, d⟩ 4 i p), .int .i64 (PM.node ⟨s, l, t, c, d⟩ i j p), .int .i64 (PM.at_ ⟨s, l, t, c, d⟩ 6 i 0), .int .i64 (PM.at_ ⟨s, l, t, c, d⟩ 7 i p), .int .i64 (PM.at_ ⟨s, l, t, c, d⟩ 8 i 0), .int .i64 (PM.at_ ⟨s, l, t, c, d⟩ 8 i 1), .int .i64 (PM.hash ⟨s, l, t, c, d⟩ i)] 3) = Z at G2 ⊢
  generalize wC.heap.size = gb at G2 ⊢
  have HL := hid (show (PM.row ⟨s, l, t, c, d⟩ i j p).length = 12 from rfl)
  generalize PM.row ⟨s, l, t, c, d⟩ i j p = L at G2 HL
  go_loopw [15] (fun i wr => ∃ n : Nat, n ≤ 12 ∧ i = .int .i64 n ∧ Below Z.heap.size Z wr) (fun i _ => 12 - (intOf i).toNat)
  case atStart => exact ⟨0, by omega, rfl, bid Z⟩
  case round =>
    obtain ⟨n, hn, rfl, hb⟩ := hrel
    have HB := hid hb
    clear hb
    by_cases hlt : n < 12
    · have ca := (G2.out.2.2.2.1.below HB.out).cell (i := n) (by rw [HL.out]; exact hlt)
      have cb := (G2.out.2.2.2.2.below HB.out).cell (i := n) (by rw [HL.out]; exact hlt)
      generalize L.getD n 0 = z at ca cb
      have q0 : (0 : Int) ≤ ((n : Nat) : Int) := by omega
      have q1 : ((n : Nat) : Int) < 12 := by omega
      go_wp2
      go_quiet (fail)
      go_wp2
      go_roundw
      case rel => exact ⟨n + 1, by omega, by go_num, bdrewN HB.out⟩
      case measure => simp [intOf]; omega
    · have e : n = 12 := by omega
      subst e
      obtain ⟨m0, m1, m2, m3, m4, m5⟩ := (G2.out.1.below HB.out).facts
      obtain ⟨n0, n1, n2, n3, n4, n5⟩ := (G2.out.2.1.below HB.out).facts
      go_wp2
      refine wp_region_later (by kernel_rfl) (by kernel_rfl) ?_
      repeat (go_big_quiet_step (first | (go_at_call 34; with_reducible exact later_call (told_any _)) | (go_at_call 35; with_reducible exact later_call (may_any ⟨s, l, t, c, d⟩ _)) | (go_at_call 36; with_reducible exact later_call (refMay_any ⟨s, l, t, c, d⟩ _)) | (go_at_call 37; with_reducible exact later_call (Name_any ⟨s, l, t, c, d⟩ _ _)) | (go_at_call 38; with_reducible exact later_call (refName_any ⟨s, l, t, c, d⟩ _ _))))
      refine wpQuiet_nil ?_
      rintro _ ⟨x, rfl⟩
      go_wp2
      go_ret
      exact ⟨by simp, bthen (bthen G2.out.2.2.1 HB.out) x.below⟩

set_option maxRecDepth 100000 in
set_option maxHeartbeats 8000000 in
theorem asks_raw (s l t c d i j p : Int) (w : World) :
    Calls Tryd.prog 3 #[.agg #[.int .i64 s, .int .i64 l, .int .i64 t, .int .i64 c, .int .i64 d], .bool false, .int .i64 i, .int .i64 j, .int .i64 p] w fun e w' => e = .returned (.bool true) ∧ Below w.heap.size w w' := by
  go_enter Tryd.func3, Tryd.ntmps3
  go_wp2_with ((go_at_call 9; refine (Ref_any ⟨s, l, t, c, d⟩ _).mono ?_; rintro e w2 ⟨rfl, hb2⟩; have F3 := hid (show FactsAt w2 (w.heap.size + 1) ⟨s, l, t, c, d⟩ ∧ Below w.heap.size w w2 from ⟨FactsAt.below (by simp [FactsAt, *]) hb2, bthen (bnew (bnew (bid w) _) _) hb2⟩); clear hb2))
  have F4 : Hid (FactsAt (w2.alloc (.cells #[.int .i64 s, .int .i64 l, .int .i64 t, .int .i64 c, .int .i64 d] 26)) (w.heap.size + 1) ⟨s, l, t, c, d⟩ ∧ FactsAt (w2.alloc (.cells #[.int .i64 s, .int .i64 l, .int .i64 t, .int .i64 c, .int .i64 d] 26)) w2.heap.size ⟨s, l, t, c, d⟩ ∧ Below w.heap.size w (w2.alloc (.cells #[.int .i64 s, .int .i64 l, .int .i64 t, .int .i64 c, .int .i64 d] 26))) :=
    hid ⟨F3.out.1.below (bnew (bid w2) _), .of_map (MapAt.new 26 w2 ⟨s, l, t, c, d⟩), bnew F3.out.2 _⟩
  clear F3
  generalize w2.alloc (.cells #[.int .i64 s, .int .i64 l, .int .i64 t, .int .i64 c, .int .i64 d] 26) = X at F4 ⊢
  generalize w2.heap.size = b2 at F4 ⊢
  generalize w.heap.size + 1 = b1 at F4 ⊢
  obtain ⟨m0, m1, m2, m3, m4, m5⟩ := F4.out.1.facts
  refine wp_region_later_tail 38 (by kernel_rfl) (by kernel_rfl) ?_
  simp only [List.take_succ_cons, List.take_zero, List.drop_succ_cons, List.drop_zero]
  repeat (go_big_quiet_step (first | (go_at_call 10; with_reducible exact later_call (Size_any ⟨s, l, t, c, d⟩ _)) | (go_at_call 11; with_reducible exact later_call (Clock_any ⟨s, l, t, c, d⟩ _)) | (go_at_call 12; with_reducible exact later_call (Seq_any ⟨s, l, t, c, d⟩ _)) | (go_at_call 13; with_reducible exact later_call (Stripe_any ⟨s, l, t, c, d⟩ _ _)) | (go_at_call 14; with_reducible exact later_call (Lock_any ⟨s, l, t, c, d⟩ _ _ _)) | (go_at_call 15; with_reducible exact later_call (Thread_any ⟨s, l, t, c, d⟩ _ _ _)) | (go_at_call 16; with_reducible exact later_call (Node_any ⟨s, l, t, c, d⟩ _ _ _ _)) | (go_at_call 17; with_reducible exact later_call (Flag_any ⟨s, l, t, c, d⟩ _ _)) | (go_at_call 18; with_reducible exact later_call (Cond_any ⟨s, l, t, c, d⟩ _ _ _)) | (go_at_call 19; with_reducible exact later_call (Data_any ⟨s, l, t, c, d⟩ _ _)) | (go_at_call 20; with_reducible exact later_call (Owner_any ⟨s, l, t, c, d⟩ _ _)) | (go_at_call 21; with_reducible exact later_call (Hash_any ⟨s, l, t, c, d⟩ _ _))))
  refine wpQuiet_nil ?_
  rintro wB ⟨x, hx⟩
  have hwB := x.below
  rw [← hx] at hwB
  clear hx x m0 m1 m2 m3 m4 m5
  go_wp2
  have G1 : Hid (FactsAt (wB.alloc (.cells #[.int .i64 (PM.size ⟨s, l, t, c, d⟩), .int .i64 (PM.at_ ⟨s, l, t, c, d⟩ 0 0 0), .int .i64 (PM.at_ ⟨s, l, t, c, d⟩ 1 0 0), .int .i64 (PM.at_ ⟨s, l, t, c, d⟩ 2 i 0), .int .i64 (PM.at_ ⟨s, l, t, c, d⟩ 3 i p), .int .i64 (PM.at_ ⟨s, l, t, c, d⟩ 4 i p), .int .i64 (PM.node ⟨s, l, t, c, d⟩ i j p), .int .i64 (PM.at_ ⟨s, l, t, c, d⟩ 6 i 0), .int .i64 (PM.at_ ⟨s, l, t, c, d⟩ 7 i p), .int .i64 (PM.at_ ⟨s, l, t, c, d⟩ 8 i 0), .int .i64 (PM.at_ ⟨s, l, t, c, d⟩ 8 i 1), .int .i64 (PM.hash ⟨s, l, t, c, d⟩ i)] 3)) b1 ⟨s, l, t, c, d⟩ ∧ FactsAt (wB.alloc (.cells #[.int .i64 (PM.size ⟨s, l, t, c, d⟩), .int .i64 (PM.at_ ⟨s, l, t, c, d⟩ 0 0 0), .int .i64 (PM.at_ ⟨s, l, t, c, d⟩ 1 0 0), .int .i64 (PM.at_ ⟨s, l, t, c, d⟩ 2 i 0), .int .i64 (PM.at_ ⟨s, l, t, c, d⟩ 3 i p), .int .i64 (PM.at_ ⟨s, l, t, c, d⟩ 4 i p), .int .i64 (PM.node ⟨s, l, t, c, d⟩ i j p), .int .i64 (PM.at_ ⟨s, l, t, c, d⟩ 6 i 0), .int .i64 (PM.at_ ⟨s, l, t, c, d⟩ 7 i p), .int .i64 (PM.at_ ⟨s, l, t, c, d⟩ 8 i 0), .int .i64 (PM.at_ ⟨s, l, t, c, d⟩ 8 i 1), .int .i64 (PM.hash ⟨s, l, t, c, d⟩ i)] 3)) b2 ⟨s, l, t, c, d⟩ ∧ Below w.heap.size w (wB.alloc (.cells #[.int .i64 (PM.size ⟨s, l, t, c, d⟩), .int .i64 (PM.at_ ⟨s, l, t, c, d⟩ 0 0 0), .int .i64 (PM.at_ ⟨s, l, t, c, d⟩ 1 0 0), .int .i64 (PM.at_ ⟨s, l, t, c, d⟩ 2 i 0), .int .i64 (PM.at_ ⟨s, l, t, c, d⟩ 3 i p), .int .i64 (PM.at_ ⟨s, l, t, c, d⟩ 4 i p), .int .i64 (PM.node ⟨s, l, t, c, d⟩ i j p), .int .i64 (PM.at_ ⟨s, l, t, c, d⟩ 6 i 0), .int .i64 (PM.at_ ⟨s, l, t, c, d⟩ 7 i p), .int .i64 (PM.at_ ⟨s, l, t, c, d⟩ 8 i 0), .int .i64 (PM.at_ ⟨s, l, t, c, d⟩ 8 i 1), .int .i64 (PM.hash ⟨s, l, t, c, d⟩ i)] 3)) ∧ Ints 3 (wB.alloc (.cells #[.int .i64 (PM.size ⟨s, l, t, c, d⟩), .int .i64 (PM.at_ ⟨s, l, t, c, d⟩ 0 0 0), .int .i64 (PM.at_ ⟨s, l, t, c, d⟩ 1 0 0), .int .i64 (PM.at_ ⟨s, l, t, c, d⟩ 2 i 0), .int .i64 (PM.at_ ⟨s, l, t, c, d⟩ 3 i p), .int .i64 (PM.at_ ⟨s, l, t, c, d⟩ 4 i p), .int .i64 (PM.node ⟨s, l, t, c, d⟩ i j p), .int .i64 (PM.at_ ⟨s, l, t, c, d⟩ 6 i 0), .int .i64 (PM.at_ ⟨s, l, t, c, d⟩ 7 i p), .int .i64 (PM.at_ ⟨s, l, t, c, d⟩ 8 i 0), .int .i64 (PM.at_ ⟨s, l, t, c, d⟩ 8 i 1), .int .i64 (PM.hash ⟨s, l, t, c, d⟩ i)] 3)) 0 wB.heap.size 12 (PM.row ⟨s, l, t, c, d⟩ i j p)) :=
    hid ⟨(F4.out.1.below hwB).below (bnew (bid wB) _), (F4.out.2.1.below hwB).below (bnew (bid wB) _), bnew (bthen F4.out.2.2 hwB) _, Ints.lit (PM.row ⟨s, l, t, c, d⟩ i j p) wB 3 _ rfl (Nat.zero_le _) (by simp [maxLen, PM.row])⟩
  clear F4 hwB
  generalize wB.alloc (.cells #[.int .i64 (PM.size ⟨s, l, t, c, d⟩), .int .i64 (PM.at_ ⟨s, l, t, c, d⟩ 0 0 0), .int .i64 (PM.at_ ⟨s, l, t, c, d⟩ 1 0 0), .int .i64 (PM.at_ ⟨s, l, t, c, d⟩ 2 i 0), .int .i64 (PM.at_ ⟨s, l, t, c, d⟩ 3 i p), .int .i64 (PM.at_ ⟨s, l, t, c, d⟩ 4 i p), .int .i64 (PM.node ⟨s, l, t, c, d⟩ i j p), .int .i64 (PM.at_ ⟨s, l, t, c, d⟩ 6 i 0), .int .i64 (PM.at_ ⟨s, l, t, c, d⟩ 7 i p), .int .i64 (PM.at_ ⟨s, l, t, c, d⟩ 8 i 0), .int .i64 (PM.at_ ⟨s, l, t, c, d⟩ 8 i 1), .int .i64 (PM.hash ⟨s, l, t, c, d⟩ i)] 3) = Y at G1 ⊢
  generalize wB.heap.size = ga at G1 ⊢
  obtain ⟨m0, m1, m2, m3, m4, m5⟩ := G1.out.2.1.facts
  refine wp_region_later_tail 38 (by kernel_rfl) (by kernel_rfl) ?_
  simp only [List.take_succ_cons, List.take_zero, List.drop_succ_cons, List.drop_zero]
  repeat (go_big_quiet_step (first | (go_at_call 22; with_reducible exact later_call (refSize_any ⟨s, l, t, c, d⟩ _)) | (go_at_call 23; with_reducible exact later_call (refClock_any ⟨s, l, t, c, d⟩ _)) | (go_at_call 24; with_reducible exact later_call (refSeq_any ⟨s, l, t, c, d⟩ _)) | (go_at_call 25; with_reducible exact later_call (refStripe_any ⟨s, l, t, c, d⟩ _ _)) | (go_at_call 26; with_reducible exact later_call (refLock_any ⟨s, l, t, c, d⟩ _ _ _)) | (go_at_call 27; with_reducible exact later_call (refThread_any ⟨s, l, t, c, d⟩ _ _ _)) | (go_at_call 28; with_reducible exact later_call (refNode_any ⟨s, l, t, c, d⟩ _ _ _ _)) | (go_at_call 29; with_reducible exact later_call (refFlag_any ⟨s, l, t, c, d⟩ _ _)) | (go_at_call 30; with_reducible exact later_call (refCond_any ⟨s, l, t, c, d⟩ _ _ _)) | (go_at_call 31; with_reducible exact later_call (refData_any ⟨s, l, t, c, d⟩ _ _)) | (go_at_call 32; with_reducible exact later_call (refOwner_any ⟨s, l, t, c, d⟩ _ _)) | (go_at_call 33; with_reducible exact later_call (refHash_any ⟨s, l, t, c, d⟩ _ _))))
  refine wpQuiet_nil ?_
  rintro wC ⟨x, hx⟩
  have hwC := x.below
  rw [← hx] at hwC
  clear hx x m0 m1 m2 m3 m4 m5
  go_wp2
  have G2 : Hid (FactsAt (wC.alloc (.cells #[.int .i64 (PM.size ⟨s, l, t, c, d⟩), .int .i64 (PM.at_ ⟨s, l, t, c, d⟩ 0 0 0), .int .i64 (PM.at_ ⟨s, l, t, c, d⟩ 1 0 0), .int .i64 (PM.at_ ⟨s, l, t, c, d⟩ 2 i 0), .int .i64 (PM.at_ ⟨s, l, t, c, d⟩ 3 i p), .int .i64 (PM.at_ ⟨s, l, t, c, d⟩ 4 i p), .int .i64 (PM.node ⟨s, l, t, c, d⟩ i j p), .int .i64 (PM.at_ ⟨s, l, t, c, d⟩ 6 i 0), .int .i64 (PM.at_ ⟨s, l, t, c, d⟩ 7 i p), .int .i64 (PM.at_ ⟨s, l, t, c, d⟩ 8 i 0), .int .i64 (PM.at_ ⟨s, l, t, c, d⟩ 8 i 1), .int .i64 (PM.hash ⟨s, l, t, c, d⟩ i)] 3)) b1 ⟨s, l, t, c, d⟩ ∧ FactsAt (wC.alloc (.cells #[.int .i64 (PM.size ⟨s, l, t, c, d⟩), .int .i64 (PM.at_ ⟨s, l, t, c, d⟩ 0 0 0), .int .i64 (PM.at_ ⟨s, l, t, c, d⟩ 1 0 0), .int .i64 (PM.at_ ⟨s, l, t, c, d⟩ 2 i 0), .int .i64 (PM.at_ ⟨s, l, t, c, d⟩ 3 i p), .int .i64 (PM.at_ ⟨s, l, t, c, d⟩ 4 i p), .int .i64 (PM.node ⟨s, l, t, c, d⟩ i j p), .int .i64 (PM.at_ ⟨s, l, t, c, d⟩ 6 i 0), .int .i64 (PM.at_ ⟨s, l, t, c, d⟩ 7 i p), .int .i64 (PM.at_ ⟨s, l, t, c, d⟩ 8 i 0), .int .i64 (PM.at_ ⟨s, l, t, c, d⟩ 8 i 1), .int .i64 (PM.hash ⟨s, l, t, c, d⟩ i)] 3)) b2 ⟨s, l, t, c, d⟩ ∧ Below w.heap.size w (wC.alloc (.cells #[.int .i64 (PM.size ⟨s, l, t, c, d⟩), .int .i64 (PM.at_ ⟨s, l, t, c, d⟩ 0 0 0), .int .i64 (PM.at_ ⟨s, l, t, c, d⟩ 1 0 0), .int .i64 (PM.at_ ⟨s, l, t, c, d⟩ 2 i 0), .int .i64 (PM.at_ ⟨s, l, t, c, d⟩ 3 i p), .int .i64 (PM.at_ ⟨s, l, t, c, d⟩ 4 i p), .int .i64 (PM.node ⟨s, l, t, c, d⟩ i j p), .int .i64 (PM.at_ ⟨s, l, t, c, d⟩ 6 i 0), .int .i64 (PM.at_ ⟨s, l, t, c, d⟩ 7 i p), .int .i64 (PM.at_ ⟨s, l, t, c, d⟩ 8 i 0), .int .i64 (PM.at_ ⟨s, l, t, c, d⟩ 8 i 1), .int .i64 (PM.hash ⟨s, l, t, c, d⟩ i)] 3)) ∧ Ints 3 (wC.alloc (.cells #[.int .i64 (PM.size ⟨s, l, t, c, d⟩), .int .i64 (PM.at_ ⟨s, l, t, c, d⟩ 0 0 0), .int .i64 (PM.at_ ⟨s, l, t, c, d⟩ 1 0 0), .int .i64 (PM.at_ ⟨s, l, t, c, d⟩ 2 i 0), .int .i64 (PM.at_ ⟨s, l, t, c, d⟩ 3 i p), .int .i64 (PM.at_ ⟨s, l, t, c, d⟩ 4 i p), .int .i64 (PM.node ⟨s, l, t, c, d⟩ i j p), .int .i64 (PM.at_ ⟨s, l, t, c, d⟩ 6 i 0), .int .i64 (PM.at_ ⟨s, l, t, c, d⟩ 7 i p), .int .i64 (PM.at_ ⟨s, l, t, c, d⟩ 8 i 0), .int .i64 (PM.at_ ⟨s, l, t, c, d⟩ 8 i 1), .int .i64 (PM.hash ⟨s, l, t, c, d⟩ i)] 3)) 0 ga 12 (PM.row ⟨s, l, t, c, d⟩ i j p) ∧ Ints 3 (wC.alloc (.cells #[.int .i64 (PM.size ⟨s, l, t, c, d⟩), .int .i64 (PM.at_ ⟨s, l, t, c, d⟩ 0 0 0), .int .i64 (PM.at_ ⟨s, l, t, c, d⟩ 1 0 0), .int .i64 (PM.at_ ⟨s, l, t, c, d⟩ 2 i 0), .int .i64 (PM.at_ ⟨s, l, t, c, d⟩ 3 i p), .int .i64 (PM.at_ ⟨s, l, t, c, d⟩ 4 i p), .int .i64 (PM.node ⟨s, l, t, c, d⟩ i j p), .int .i64 (PM.at_ ⟨s, l, t, c, d⟩ 6 i 0), .int .i64 (PM.at_ ⟨s, l, t, c, d⟩ 7 i p), .int .i64 (PM.at_ ⟨s, l, t, c, d⟩ 8 i 0), .int .i64 (PM.at_ ⟨s, l, t, c, d⟩ 8 i 1), .int .i64 (PM.hash ⟨s, l, t, c, d⟩ i)] 3)) 0 wC.heap.size 12 (PM.row ⟨s, l, t, c, d⟩ i j p)) :=
    hid ⟨(G1.out.1.below hwC).below (bnew (bid wC) _), (G1.out.2.1.below hwC).below (bnew (bid wC) _), bnew (bthen G1.out.2.2.1 hwC) _, (G1.out.2.2.2.below hwC).below (bnew (bid wC) _), Ints.lit (PM.row ⟨s, l, t, c, d⟩ i j p) wC 3 _ rfl (Nat.zero_le _) (by simp [maxLen, PM.row])⟩
  clear G1 hwC
  generalize wC.alloc (.cells #[.int .i64 (PM.size ⟨s, l, t, c, d⟩), .int .i64 (PM.at_ ⟨s, l, t, c, d⟩ 0 0 0), .int .i64 (PM.at_ ⟨s, l, t, c, d⟩ 1 0 0), .int .i64 (PM.at_ ⟨s, l, t, c, d⟩ 2 i 0), .int .i64 (PM.at_ ⟨s, l, t, c, d⟩ 3 i p), .int .i64 (PM.at_ ⟨s, l, t, c, d⟩ 4 i p), .int .i64 (PM.node ⟨s, l, t, c, d⟩ i j p), .int .i64 (PM.at_ ⟨s, l, t, c, d⟩ 6 i 0), .int .i64 (PM.at_ ⟨s, l, t, c, d⟩ 7 i p), .int .i64 (PM.at_ ⟨s, l, t, c, d⟩ 8 i 0), .int .i64 (PM.at_ ⟨s, l, t, c, d⟩ 8 i 1), .int .i64 (PM.hash ⟨s, l, t, c, d⟩ i)] 3) = Z at G2 ⊢
  generalize wC.heap.size = gb at G2 ⊢
  have HL := hid (show (PM.row ⟨s, l, t, c, d⟩ i j p).length = 12 from rfl)
  generalize PM.row ⟨s, l, t, c, d⟩ i j p = L at G2 HL
  go_loopw [15] (fun i wr => ∃ n : Nat, n ≤ 12 ∧ i = .int .i64 n ∧ Below Z.heap.size Z wr) (fun i _ => 12 - (intOf i).toNat)
  case atStart => exact ⟨0, by omega, rfl, bid Z⟩
  case round =>
    obtain ⟨n, hn, rfl, hb⟩ := hrel
    have HB := hid hb
    clear hb
    by_cases hlt : n < 12
    · have ca := (G2.out.2.2.2.1.below HB.out).cell (i := n) (by rw [HL.out]; exact hlt)
      have cb := (G2.out.2.2.2.2.below HB.out).cell (i := n) (by rw [HL.out]; exact hlt)
      generalize L.getD n 0 = z at ca cb
      have q0 : (0 : Int) ≤ ((n : Nat) : Int) := by omega
      have q1 : ((n : Nat) : Int) < 12 := by omega
      go_wp2
      go_quiet (fail)
      go_wp2
      go_roundw
      case rel => exact ⟨n + 1, by omega, by go_num, bdrewN HB.out⟩
      case measure => simp [intOf]; omega
    · have e : n = 12 := by omega
      subst e
      obtain ⟨m0, m1, m2, m3, m4, m5⟩ := (G2.out.1.below HB.out).facts
      obtain ⟨n0, n1, n2, n3, n4, n5⟩ := (G2.out.2.1.below HB.out).facts
      go_wp2
      refine wp_region_later (by kernel_rfl) (by kernel_rfl) ?_
      repeat (go_big_quiet_step (first | (go_at_call 34; with_reducible exact later_call (told_any _)) | (go_at_call 35; with_reducible exact later_call (may_any ⟨s, l, t, c, d⟩ _)) | (go_at_call 36; with_reducible exact later_call (refMay_any ⟨s, l, t, c, d⟩ _)) | (go_at_call 37; with_reducible exact later_call (Name_any ⟨s, l, t, c, d⟩ _ _)) | (go_at_call 38; with_reducible exact later_call (refName_any ⟨s, l, t, c, d⟩ _ _))))
      refine wpQuiet_nil ?_
      rintro _ ⟨x, rfl⟩
      go_wp2
      go_ret
      exact ⟨by simp, bthen (bthen G2.out.2.2.1 HB.out) x.below⟩

theorem asks_walk (k0 k1 k2 k3 k4 : Int) (b : Bool) (i j p : Int) (w : World) :
    Calls Tryd.prog 3 #[.agg #[.int .i64 k0, .int .i64 k1, .int .i64 k2, .int .i64 k3, .int .i64 k4], .bool b, .int .i64 i, .int .i64 j, .int .i64 p] w fun e w' => e = .returned (.bool true) ∧ Below w.heap.size w w' := by
  cases b
  · exact asks_raw k0 k1 k2 k3 k4 i j p w
  · exact asks_near k0 k1 k2 k3 k4 i j p w

end Go.Proofs.YtjekhjjighbfaaaDoor
