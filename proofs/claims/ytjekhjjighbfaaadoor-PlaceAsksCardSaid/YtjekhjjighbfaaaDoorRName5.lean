/-
  The document's own names are package place's: the nodes' names.
-/
import Derived.Test.YtjekhjjighbfaaaDoorDec
import Derived.Deep.RegionHeld3
namespace Go.Proofs.YtjekhjjighbfaaaDoor
open Go.RowKit

theorem tup_cells5 {m : PM} (h : m.Ok) {k i p : Nat} (hh : m.Has k i p) (A : Nat) (a : Nat) (ha : (a : Int) = m.loc k i p) (hA : a < A) :
    (m.recs A).getD (a * 4) 0 = (tupL m.l.toNat k i p).getD 0 0 ∧ (m.recs A).getD (a * 4 + 1) 0 = (tupL m.l.toNat k i p).getD 1 0 ∧ (m.recs A).getD (a * 4 + 2) 0 = (tupL m.l.toNat k i p).getD 2 0 ∧ (m.recs A).getD (a * 4 + 3) 0 = (tupL m.l.toNat k i p).getD 3 0 := by
  have ht := m.tup_at h hh
  rw [← ha] at ht
  refine ⟨?_, ?_, ?_, ?_⟩
  · rw [show a * 4 = a * 4 + 0 from rfl, recs_at m A a 0 hA (by decide), ht]
  · rw [recs_at m A a 1 hA (by decide), ht]
  · rw [recs_at m A a 2 hA (by decide), ht]
  · rw [recs_at m A a 3 hA (by decide), ht]

theorem new_cell {W w3 : World} {v0 v1 : Value} {E : TypeId} (hb : Below (W.alloc (.cells #[v0, v1] E)).drew.heap.size (W.alloc (.cells #[v0, v1] E)).drew w3) :
    w3.cell? ⟨W.heap.size, 0, none⟩ = some v0 ∧ w3.cell? ⟨W.heap.size, 1, none⟩ = some v1 := by
  have hl : W.heap.size < (W.alloc (.cells #[v0, v1] E)).drew.heap.size := by
    show W.heap.size < (W.alloc (.cells #[v0, v1] E)).heap.size
    simp
  refine ⟨(hb.cell (p := ⟨W.heap.size, 0, none⟩) hl).trans ?_, (hb.cell (p := ⟨W.heap.size, 1, none⟩) hl).trans ?_⟩
  · show (W.alloc (.cells #[v0, v1] E)).cell? ⟨W.heap.size, 0, none⟩ = _
    rw [World.cell?_alloc_at _ _ _ _ rfl]; rfl
  · show (W.alloc (.cells #[v0, v1] E)).cell? ⟨W.heap.size, 1, none⟩ = _
    rw [World.cell?_alloc_at _ _ _ _ rfl]; rfl

theorem lt_alloc {a : Nat} {W : World} (h : a < W.heap.size) (o : Obj) : a < (W.alloc o).heap.size := by
  rw [size_alloc1]
  omega

set_option maxHeartbeats 8000000 in
theorem refName_5_0 (m : PM) (i a : Nat) (w : World) (h : m.Ok) (hh : m.Has 5 i 0) (ha : (a : Int) = m.loc 5 i 0) :
    Calls Tryd.prog 38 #[m.v, .int .i64 (a : Int)] w fun e w' => e = .returned (.string ⟨(nameL m.l.toNat 5 i 0).toArray⟩) ∧ Below w.heap.size w w' := by
  have HP := hid (fun W => places_any m W h)
  obtain ⟨z1, z2⟩ := m.size_bounds h
  obtain ⟨_, _, g3, g4⟩ := m.loc_range h hh
  have haA : a < m.size.toNat := by omega
  have hc := tup_cells5 h hh m.size.toNat a ha haA
  rw [show tupL m.l.toNat 5 i 0 = [6, ((i / m.l.toNat : Nat) : Int), ((i % m.l.toNat : Nat) : Int), 0] from rfl] at hc
  have HC := hid hc
  clear hc
  have hi := hh.many
  obtain ⟨_, _, _, hb, _⟩ := m.bounds h 5 (by decide)
  have hi99 : i < 100 := by omega
  have k1 : i / m.l.toNat < 100 := by have := Nat.div_le_self i m.l.toNat; omega
  have k2 : i % m.l.toNat < 100 := by have := Nat.mod_le i m.l.toNat; omega
  have HD1 := hid (Decimal_any (i / m.l.toNat) k1)
  have HD2 := hid (Decimal_any (i % m.l.toNat) k2)
  have l1 := dd_len (i / m.l.toNat)
  have l2 := dd_len (i % m.l.toNat)
  generalize hx : i / m.l.toNat = x at *
  generalize hy : i % m.l.toNat = y at *
  have hLL : m.l.toNat = m.l.toNat := rfl
  generalize hA : m.size.toNat = A at *
  have hA1 : A ≤ 314 := by omega
  clear z1 z2 g3 g4 hb hA ha hi
  generalize m.recs A = zs at *
  generalize hL : m.l.toNat = LL at *
  clear h hh hL
  obtain ⟨s, l, t, c, d⟩ := m
  have i1 : (0 : Int) ≤ (a : Int) := by omega
  have i2 : (a : Int) < (A : Int) := by omega
  show Calls _ _ #[.agg #[.int .i64 s, .int .i64 l, .int .i64 t, .int .i64 c, .int .i64 d], _] _ _
  go_enter Tryd.func38, Tryd.ntmps38
  go_wp2_with (first | (go_at_call 42; refine (HP.out _).mono ?_; rintro e w1 ⟨⟨g, cap, rfl, hr⟩, hb1⟩; have r0 := hr.cell (j := a * 4) (by omega); have r1 := hr.cell (j := a * 4 + 1) (by omega); have r2 := hr.cell (j := a * 4 + 2) (by omega); have r3 := hr.cell (j := a * 4 + 3) (by omega); rw [HC.out.1] at r0; rw [HC.out.2.1] at r1; rw [HC.out.2.2.1] at r2; rw [HC.out.2.2.2] at r3; have hgl := hr.lt.2; have hrm := hr.room; unfold maxLen at hrm; obtain ⟨q1, q2⟩ := hrm; have HR := hid hr; have HB1 := hid hb1; clear hr hb1) | (go_at_call 48; refine (HD1.out _).mono ?_; rintro e w2 ⟨rfl, hb2⟩; obtain ⟨hc2, hf2, hz2⟩ := bcell hb2 (size_alloc1 _ _); have hz9 : w1.heap.size < w2.heap.size := hz2; have HB2 := hid hb2; clear hb2))
  have n1 : ¬ 9223372036854775807 < 5 + (dd x).length := by omega
  have n2 : ¬ 9223372036854775807 < 5 + (dd x).length + 1 := by omega
  have n3 : ¬ 9223372036854775807 < 5 + (dd x).length + 1 + (dd y).length := by omega
  have n4 : ¬ 9223372036854775807 < 5 + (dd x).length + 1 + (dd y).length + 1 := by omega
  have n5 : ¬ 9223372036854775807 < 5 + (dd x).length + 1 + (dd y).length + 1 + 4 := by omega
  have HX := hid (bdrew (bthen (bnew (bthen (bnew (bid w) _) HB1.out) _) HB2.out))
  have u0 : w1.heap.size < w2.drew.heap.size := hz9
  have e2 : w2.drew.cell? ⟨w1.heap.size, 2, none⟩ = some (.int .i64 (y : Int)) := by simp [*]
  have e3 : w2.drew.cell? ⟨w1.heap.size, 3, none⟩ = some (.int .i64 0) := by simp [*]
  refine wp_region_noPanic ?_
  refine wp_region_held_drew (S := fun w' => w1.heap.size < w'.heap.size ∧ w'.cell? ⟨w1.heap.size, 2, none⟩ = some (.int .i64 (y : Int)) ∧ w'.cell? ⟨w1.heap.size, 3, none⟩ = some (.int .i64 0)) (by kernel_rfl) ⟨u0, e2, e3⟩ (fun hHeld => ?_)
  clear u0 e2 e3
  refine wpAnyH_take (i := 0) (v := ?_) rfl (by kernel_rfl) (by kernel_rfl) (by kernel_rfl) (fun _ _ _ h => h) (Or.inl ⟨by rfl, ?_⟩) (by assumption) ?_
  rotate_left
  · (intro w' hSw; (try dsimp only at hSw); go_simp; try (with_reducible rfl))
  (try simp only [Act.put, List.getElem_toArray, List.getElem_cons_zero, List.getElem_cons_succ, List.setIfInBounds_toArray, List.set_cons_zero, List.set_cons_succ])
  refine wpAnyH_take (i := 1) (v := ?_) rfl (by kernel_rfl) (by kernel_rfl) (by kernel_rfl) (fun _ _ _ h => h) (Or.inl ⟨by rfl, ?_⟩) (by assumption) ?_
  rotate_left
  · (intro w' hSw; (try dsimp only at hSw); go_simp; try (with_reducible rfl))
  (try simp only [Act.put, List.getElem_toArray, List.getElem_cons_zero, List.getElem_cons_succ, List.setIfInBounds_toArray, List.set_cons_zero, List.set_cons_succ])
  refine wpAnyH_take (i := 2) (v := ?_) rfl (by kernel_rfl) (by kernel_rfl) (by kernel_rfl) (fun _ _ _ h => h) (Or.inl ⟨by rfl, ?_⟩) (by assumption) ?_
  rotate_left
  · (intro w' hSw; (try dsimp only at hSw); go_simp; try (with_reducible rfl))
  (try simp only [Act.put, List.getElem_toArray, List.getElem_cons_zero, List.getElem_cons_succ, List.setIfInBounds_toArray, List.set_cons_zero, List.set_cons_succ])
  refine wpAnyH_take (i := 3) (v := ?_) rfl (by kernel_rfl) (by kernel_rfl) (by kernel_rfl) (fun _ _ _ h => h) (Or.inl ⟨by rfl, ?_⟩) (by assumption) ?_
  rotate_left
  · (intro w' hSw; (try dsimp only at hSw); go_simp; try (with_reducible rfl))
  (try simp only [Act.put, List.getElem_toArray, List.getElem_cons_zero, List.getElem_cons_succ, List.setIfInBounds_toArray, List.set_cons_zero, List.set_cons_succ])
  refine wpAnyH_take (i := 4) (v := ?_) rfl (by kernel_rfl) (by kernel_rfl) (by kernel_rfl) (fun _ _ _ h => h) (Or.inl ⟨by rfl, ?_⟩) (by assumption) ?_
  rotate_left
  · (intro w' hSw; (try dsimp only at hSw); go_simp; try (with_reducible rfl))
  (try simp only [Act.put, List.getElem_toArray, List.getElem_cons_zero, List.getElem_cons_succ, List.setIfInBounds_toArray, List.set_cons_zero, List.set_cons_succ])
  refine wpAnyH_take (i := 9) (v := ?_) rfl (by kernel_rfl) (by kernel_rfl) (by kernel_rfl) (fun _ _ _ h => h) (Or.inl ⟨by rfl, ?_⟩) (by assumption) ?_
  rotate_left
  · (intro w' hSw; (try dsimp only at hSw); go_simp; try (with_reducible rfl))
  (try simp only [Act.put, List.getElem_toArray, List.getElem_cons_zero, List.getElem_cons_succ, List.setIfInBounds_toArray, List.set_cons_zero, List.set_cons_succ])
  refine wpAnyH_take (i := 10) (v := ?_) rfl (by kernel_rfl) (by kernel_rfl) (by kernel_rfl) (fun _ _ _ h => h) (Or.inl ⟨by rfl, ?_⟩) (by assumption) ?_
  rotate_left
  · (intro w' hSw; (try dsimp only at hSw); go_simp; try (with_reducible rfl))
  (try simp only [Act.put, List.getElem_toArray, List.getElem_cons_zero, List.getElem_cons_succ, List.setIfInBounds_toArray, List.set_cons_zero, List.set_cons_succ])
  refine wpAnyH_ready (rs := [5, 8]) (by kernel_rfl) (by simp) (AllReadyH.cons rfl (fun K hK => ?_) (AllReadyH.cons rfl (fun K hK => ?_) AllReadyH.nil))
  · go_simp
    go_at_call 48
    refine (HD2.out _).mono ?_
    rintro e w3 ⟨rfl, hb3⟩
    have u1 := Nat.lt_of_lt_of_le hHeld.1 hb3.size
    have u2 := (hb3.cell (p := ⟨w1.heap.size, 2, none⟩) hHeld.1).trans hHeld.2.1
    have u3 := (hb3.cell (p := ⟨w1.heap.size, 3, none⟩) hHeld.1).trans hHeld.2.2
    have HB3 := hid hb3
    clear hb3 hHeld
    go_wp2_with fail
    refine hK.out _ _ ⟨u1, u2, u3⟩ (fun hHeld => ?_)
    clear hK K
    (try simp only [Act.put, List.getElem_toArray, List.getElem_cons_zero, List.getElem_cons_succ, List.setIfInBounds_toArray, List.set_cons_zero, List.set_cons_succ])
    refine wpAnyH_take (i := 6) (v := ?_) rfl (by kernel_rfl) (by kernel_rfl) (by kernel_rfl) (fun _ _ _ h => h) (Or.inl ⟨by rfl, ?_⟩) (by assumption) ?_
    rotate_left
    · (intro w' hSw; (try dsimp only at hSw); go_simp; try (with_reducible rfl))
    (try simp only [Act.put, List.getElem_toArray, List.getElem_cons_zero, List.getElem_cons_succ, List.setIfInBounds_toArray, List.set_cons_zero, List.set_cons_succ])
    refine wpAnyH_take (i := 7) (v := ?_) rfl (by kernel_rfl) (by kernel_rfl) (by kernel_rfl) (fun _ _ _ h => h) (Or.inl ⟨by rfl, ?_⟩) (by assumption) ?_
    rotate_left
    · (intro w' hSw; (try dsimp only at hSw); go_simp; try (with_reducible rfl))
    (try simp only [Act.put, List.getElem_toArray, List.getElem_cons_zero, List.getElem_cons_succ, List.setIfInBounds_toArray, List.set_cons_zero, List.set_cons_succ])
    refine wpAnyH_ready (rs := [8]) (by kernel_rfl) (by simp) (AllReadyH.cons rfl (fun K hK => ?_) AllReadyH.nil)
    go_simp
    refine hK.out _ _ ⟨lt_alloc u1 _, by simp [*, World.cell?_alloc_some], by simp [*, World.cell?_alloc_some]⟩ (fun hHeld => ?_)
    clear hK K
    (try simp only [Act.put, List.getElem_toArray, List.getElem_cons_zero, List.getElem_cons_succ, List.setIfInBounds_toArray, List.set_cons_zero, List.set_cons_succ])
    refine wpAnyH_take (i := 11) (v := ?_) rfl (by kernel_rfl) (by kernel_rfl) (by kernel_rfl) (fun _ _ _ h => h) (Or.inl ⟨by rfl, ?_⟩) (by assumption) ?_
    rotate_left
    · (intro w' hSw; (try dsimp only at hSw); go_simp; try (with_reducible rfl))
    (try simp only [Act.put, List.getElem_toArray, List.getElem_cons_zero, List.getElem_cons_succ, List.setIfInBounds_toArray, List.set_cons_zero, List.set_cons_succ])
    refine wpAnyH_ready (rs := [12]) (by kernel_rfl) (by simp) (AllReadyH.cons rfl (fun K hK => ?_) AllReadyH.nil)
    go_simp
    refine hK.out _ _ hHeld (fun hHeld => ?_)
    clear hK K
    (try simp only [Act.put, List.getElem_toArray, List.getElem_cons_zero, List.getElem_cons_succ, List.setIfInBounds_toArray, List.set_cons_zero, List.set_cons_succ])
    refine wpAnyH_take (i := 13) (v := ?_) rfl (by kernel_rfl) (by kernel_rfl) (by kernel_rfl) (fun _ _ _ h => h) (Or.inl ⟨by rfl, ?_⟩) (by assumption) ?_
    rotate_left
    · (intro w' hSw; (try dsimp only at hSw); go_simp; try (with_reducible rfl))
    (try simp only [Act.put, List.getElem_toArray, List.getElem_cons_zero, List.getElem_cons_succ, List.setIfInBounds_toArray, List.set_cons_zero, List.set_cons_succ])
    refine wpAnyH_take (i := 14) (v := ?_) rfl (by kernel_rfl) (by kernel_rfl) (by kernel_rfl) (fun _ _ _ h => h) (Or.inl ⟨by rfl, ?_⟩) (by assumption) ?_
    rotate_left
    · (intro w' hSw; (try dsimp only at hSw); go_simp; try (with_reducible rfl))
    (try simp only [Act.put, List.getElem_toArray, List.getElem_cons_zero, List.getElem_cons_succ, List.setIfInBounds_toArray, List.set_cons_zero, List.set_cons_succ])
    refine wpAnyH_done (by kernel_rfl) ?_ _
    refine NoPanic.normal ?_
    go_wp2
    go_ret
    refine ⟨?_, bnew (bthen HX.out HB3.out) _⟩
    show Ending.returned (.string _) = _
    simp only [nameL, kindL, partL, hx, hy]
    congr 2
    apply ByteArray.ext
    simp
  · have hh := hHeld
    go_simp
    refine hK.out _ _ ⟨lt_alloc hh.1 _, by simp [*, World.cell?_alloc_some], by simp [*, World.cell?_alloc_some]⟩ (fun hHeld => ?_)
    clear hK K
    (try simp only [Act.put, List.getElem_toArray, List.getElem_cons_zero, List.getElem_cons_succ, List.setIfInBounds_toArray, List.set_cons_zero, List.set_cons_succ])
    clear hh
    refine wpAnyH_take (i := 11) (v := ?_) rfl (by kernel_rfl) (by kernel_rfl) (by kernel_rfl) (fun _ _ _ h => h) (Or.inl ⟨by rfl, ?_⟩) (by assumption) ?_
    rotate_left
    · (intro w' hSw; (try dsimp only at hSw); go_simp; try (with_reducible rfl))
    (try simp only [Act.put, List.getElem_toArray, List.getElem_cons_zero, List.getElem_cons_succ, List.setIfInBounds_toArray, List.set_cons_zero, List.set_cons_succ])
    refine wpAnyH_ready (rs := [5, 12]) (by kernel_rfl) (by simp) (AllReadyH.cons rfl (fun K hK => ?_) (AllReadyH.cons rfl (fun K hK => ?_) AllReadyH.nil))
    · go_simp
      go_at_call 48
      refine (HD2.out _).mono ?_
      rintro e w3 ⟨rfl, hb3⟩
      have u1 := Nat.lt_of_lt_of_le hHeld.1 hb3.size
      have u2 := (hb3.cell (p := ⟨w1.heap.size, 2, none⟩) hHeld.1).trans hHeld.2.1
      have u3 := (hb3.cell (p := ⟨w1.heap.size, 3, none⟩) hHeld.1).trans hHeld.2.2
      obtain ⟨u4, u5⟩ := new_cell (W := w2) (v0 := .string ⟨#[103, 97, 116, 101]⟩) (v1 := .string ⟨#[108, 105, 110, 107]⟩) (E := 9) hb3
      have HB3 := hid hb3
      clear hb3 hHeld
      go_wp2_with fail
      refine hK.out _ _ ⟨u1, u2, u3⟩ (fun hHeld => ?_)
      clear hK K
      (try simp only [Act.put, List.getElem_toArray, List.getElem_cons_zero, List.getElem_cons_succ, List.setIfInBounds_toArray, List.set_cons_zero, List.set_cons_succ])
      refine wpAnyH_take (i := 6) (v := ?_) rfl (by kernel_rfl) (by kernel_rfl) (by kernel_rfl) (fun _ _ _ h => h) (Or.inl ⟨by rfl, ?_⟩) (by assumption) ?_
      rotate_left
      · (intro w' hSw; (try dsimp only at hSw); go_simp; try (with_reducible rfl))
      (try simp only [Act.put, List.getElem_toArray, List.getElem_cons_zero, List.getElem_cons_succ, List.setIfInBounds_toArray, List.set_cons_zero, List.set_cons_succ])
      refine wpAnyH_take (i := 7) (v := ?_) rfl (by kernel_rfl) (by kernel_rfl) (by kernel_rfl) (fun _ _ _ h => h) (Or.inl ⟨by rfl, ?_⟩) (by assumption) ?_
      rotate_left
      · (intro w' hSw; (try dsimp only at hSw); go_simp; try (with_reducible rfl))
      (try simp only [Act.put, List.getElem_toArray, List.getElem_cons_zero, List.getElem_cons_succ, List.setIfInBounds_toArray, List.set_cons_zero, List.set_cons_succ])
      refine wpAnyH_ready (rs := [12]) (by kernel_rfl) (by simp) (AllReadyH.cons rfl (fun K hK => ?_) AllReadyH.nil)
      go_simp
      refine hK.out _ _ hHeld (fun hHeld => ?_)
      clear hK K
      (try simp only [Act.put, List.getElem_toArray, List.getElem_cons_zero, List.getElem_cons_succ, List.setIfInBounds_toArray, List.set_cons_zero, List.set_cons_succ])
      refine wpAnyH_take (i := 13) (v := ?_) rfl (by kernel_rfl) (by kernel_rfl) (by kernel_rfl) (fun _ _ _ h => h) (Or.inl ⟨by rfl, ?_⟩) (by assumption) ?_
      rotate_left
      · (intro w' hSw; (try dsimp only at hSw); go_simp; try (with_reducible rfl))
      (try simp only [Act.put, List.getElem_toArray, List.getElem_cons_zero, List.getElem_cons_succ, List.setIfInBounds_toArray, List.set_cons_zero, List.set_cons_succ])
      refine wpAnyH_take (i := 14) (v := ?_) rfl (by kernel_rfl) (by kernel_rfl) (by kernel_rfl) (fun _ _ _ h => h) (Or.inl ⟨by rfl, ?_⟩) (by assumption) ?_
      rotate_left
      · (intro w' hSw; (try dsimp only at hSw); go_simp; try (with_reducible rfl))
      (try simp only [Act.put, List.getElem_toArray, List.getElem_cons_zero, List.getElem_cons_succ, List.setIfInBounds_toArray, List.set_cons_zero, List.set_cons_succ])
      refine wpAnyH_done (by kernel_rfl) ?_ _
      refine NoPanic.normal ?_
      go_wp2
      go_ret
      refine ⟨?_, bthen (bnew HX.out _) HB3.out⟩
      show Ending.returned (.string _) = _
      simp only [nameL, kindL, partL, hx, hy]
      congr 2
      apply ByteArray.ext
      simp
    · go_simp
      refine hK.out _ _ hHeld (fun hHeld => ?_)
      clear hK K
      (try simp only [Act.put, List.getElem_toArray, List.getElem_cons_zero, List.getElem_cons_succ, List.setIfInBounds_toArray, List.set_cons_zero, List.set_cons_succ])
      refine wpAnyH_ready (rs := [5]) (by kernel_rfl) (by simp) (AllReadyH.cons rfl (fun K hK => ?_) AllReadyH.nil)
      go_simp
      go_at_call 48
      refine (HD2.out _).mono ?_
      rintro e w3 ⟨rfl, hb3⟩
      have u1 := Nat.lt_of_lt_of_le hHeld.1 hb3.size
      have u2 := (hb3.cell (p := ⟨w1.heap.size, 2, none⟩) hHeld.1).trans hHeld.2.1
      have u3 := (hb3.cell (p := ⟨w1.heap.size, 3, none⟩) hHeld.1).trans hHeld.2.2
      have HB3 := hid hb3
      clear hb3 hHeld
      go_wp2_with fail
      refine hK.out _ _ ⟨u1, u2, u3⟩ (fun hHeld => ?_)
      clear hK K
      (try simp only [Act.put, List.getElem_toArray, List.getElem_cons_zero, List.getElem_cons_succ, List.setIfInBounds_toArray, List.set_cons_zero, List.set_cons_succ])
      refine wpAnyH_take (i := 6) (v := ?_) rfl (by kernel_rfl) (by kernel_rfl) (by kernel_rfl) (fun _ _ _ h => h) (Or.inl ⟨by rfl, ?_⟩) (by assumption) ?_
      rotate_left
      · (intro w' hSw; (try dsimp only at hSw); go_simp; try (with_reducible rfl))
      (try simp only [Act.put, List.getElem_toArray, List.getElem_cons_zero, List.getElem_cons_succ, List.setIfInBounds_toArray, List.set_cons_zero, List.set_cons_succ])
      refine wpAnyH_take (i := 7) (v := ?_) rfl (by kernel_rfl) (by kernel_rfl) (by kernel_rfl) (fun _ _ _ h => h) (Or.inl ⟨by rfl, ?_⟩) (by assumption) ?_
      rotate_left
      · (intro w' hSw; (try dsimp only at hSw); go_simp; try (with_reducible rfl))
      (try simp only [Act.put, List.getElem_toArray, List.getElem_cons_zero, List.getElem_cons_succ, List.setIfInBounds_toArray, List.set_cons_zero, List.set_cons_succ])
      refine wpAnyH_take (i := 13) (v := ?_) rfl (by kernel_rfl) (by kernel_rfl) (by kernel_rfl) (fun _ _ _ h => h) (Or.inl ⟨by rfl, ?_⟩) (by assumption) ?_
      rotate_left
      · (intro w' hSw; (try dsimp only at hSw); go_simp; try (with_reducible rfl))
      (try simp only [Act.put, List.getElem_toArray, List.getElem_cons_zero, List.getElem_cons_succ, List.setIfInBounds_toArray, List.set_cons_zero, List.set_cons_succ])
      refine wpAnyH_take (i := 14) (v := ?_) rfl (by kernel_rfl) (by kernel_rfl) (by kernel_rfl) (fun _ _ _ h => h) (Or.inl ⟨by rfl, ?_⟩) (by assumption) ?_
      rotate_left
      · (intro w' hSw; (try dsimp only at hSw); go_simp; try (with_reducible rfl))
      (try simp only [Act.put, List.getElem_toArray, List.getElem_cons_zero, List.getElem_cons_succ, List.setIfInBounds_toArray, List.set_cons_zero, List.set_cons_succ])
      refine wpAnyH_done (by kernel_rfl) ?_ _
      refine NoPanic.normal ?_
      go_wp2
      go_ret
      refine ⟨?_, bthen (bnew HX.out _) HB3.out⟩
      show Ending.returned (.string _) = _
      simp only [nameL, kindL, partL, hx, hy]
      congr 2
      apply ByteArray.ext
      simp

set_option maxHeartbeats 8000000 in
theorem refName_5_1 (m : PM) (i a : Nat) (w : World) (h : m.Ok) (hh : m.Has 5 i 1) (ha : (a : Int) = m.loc 5 i 1) :
    Calls Tryd.prog 38 #[m.v, .int .i64 (a : Int)] w fun e w' => e = .returned (.string ⟨(nameL m.l.toNat 5 i 1).toArray⟩) ∧ Below w.heap.size w w' := by
  have HP := hid (fun W => places_any m W h)
  obtain ⟨z1, z2⟩ := m.size_bounds h
  obtain ⟨_, _, g3, g4⟩ := m.loc_range h hh
  have haA : a < m.size.toNat := by omega
  have hc := tup_cells5 h hh m.size.toNat a ha haA
  rw [show tupL m.l.toNat 5 i 1 = [6, ((i / m.l.toNat : Nat) : Int), ((i % m.l.toNat : Nat) : Int), 1] from rfl] at hc
  have HC := hid hc
  clear hc
  have hi := hh.many
  obtain ⟨_, _, _, hb, _⟩ := m.bounds h 5 (by decide)
  have hi99 : i < 100 := by omega
  have k1 : i / m.l.toNat < 100 := by have := Nat.div_le_self i m.l.toNat; omega
  have k2 : i % m.l.toNat < 100 := by have := Nat.mod_le i m.l.toNat; omega
  have HD1 := hid (Decimal_any (i / m.l.toNat) k1)
  have HD2 := hid (Decimal_any (i % m.l.toNat) k2)
  have l1 := dd_len (i / m.l.toNat)
  have l2 := dd_len (i % m.l.toNat)
  generalize hx : i / m.l.toNat = x at *
  generalize hy : i % m.l.toNat = y at *
  have hLL : m.l.toNat = m.l.toNat := rfl
  generalize hA : m.size.toNat = A at *
  have hA1 : A ≤ 314 := by omega
  clear z1 z2 g3 g4 hb hA ha hi
  generalize m.recs A = zs at *
  generalize hL : m.l.toNat = LL at *
  clear h hh hL
  obtain ⟨s, l, t, c, d⟩ := m
  have i1 : (0 : Int) ≤ (a : Int) := by omega
  have i2 : (a : Int) < (A : Int) := by omega
  show Calls _ _ #[.agg #[.int .i64 s, .int .i64 l, .int .i64 t, .int .i64 c, .int .i64 d], _] _ _
  go_enter Tryd.func38, Tryd.ntmps38
  go_wp2_with (first | (go_at_call 42; refine (HP.out _).mono ?_; rintro e w1 ⟨⟨g, cap, rfl, hr⟩, hb1⟩; have r0 := hr.cell (j := a * 4) (by omega); have r1 := hr.cell (j := a * 4 + 1) (by omega); have r2 := hr.cell (j := a * 4 + 2) (by omega); have r3 := hr.cell (j := a * 4 + 3) (by omega); rw [HC.out.1] at r0; rw [HC.out.2.1] at r1; rw [HC.out.2.2.1] at r2; rw [HC.out.2.2.2] at r3; have hgl := hr.lt.2; have hrm := hr.room; unfold maxLen at hrm; obtain ⟨q1, q2⟩ := hrm; have HR := hid hr; have HB1 := hid hb1; clear hr hb1) | (go_at_call 48; refine (HD1.out _).mono ?_; rintro e w2 ⟨rfl, hb2⟩; obtain ⟨hc2, hf2, hz2⟩ := bcell hb2 (size_alloc1 _ _); have hz9 : w1.heap.size < w2.heap.size := hz2; have HB2 := hid hb2; clear hb2))
  have n1 : ¬ 9223372036854775807 < 5 + (dd x).length := by omega
  have n2 : ¬ 9223372036854775807 < 5 + (dd x).length + 1 := by omega
  have n3 : ¬ 9223372036854775807 < 5 + (dd x).length + 1 + (dd y).length := by omega
  have n4 : ¬ 9223372036854775807 < 5 + (dd x).length + 1 + (dd y).length + 1 := by omega
  have n5 : ¬ 9223372036854775807 < 5 + (dd x).length + 1 + (dd y).length + 1 + 4 := by omega
  have HX := hid (bdrew (bthen (bnew (bthen (bnew (bid w) _) HB1.out) _) HB2.out))
  have u0 : w1.heap.size < w2.drew.heap.size := hz9
  have e2 : w2.drew.cell? ⟨w1.heap.size, 2, none⟩ = some (.int .i64 (y : Int)) := by simp [*]
  have e3 : w2.drew.cell? ⟨w1.heap.size, 3, none⟩ = some (.int .i64 1) := by simp [*]
  refine wp_region_noPanic ?_
  refine wp_region_held_drew (S := fun w' => w1.heap.size < w'.heap.size ∧ w'.cell? ⟨w1.heap.size, 2, none⟩ = some (.int .i64 (y : Int)) ∧ w'.cell? ⟨w1.heap.size, 3, none⟩ = some (.int .i64 1)) (by kernel_rfl) ⟨u0, e2, e3⟩ (fun hHeld => ?_)
  clear u0 e2 e3
  refine wpAnyH_take (i := 0) (v := ?_) rfl (by kernel_rfl) (by kernel_rfl) (by kernel_rfl) (fun _ _ _ h => h) (Or.inl ⟨by rfl, ?_⟩) (by assumption) ?_
  rotate_left
  · (intro w' hSw; (try dsimp only at hSw); go_simp; try (with_reducible rfl))
  (try simp only [Act.put, List.getElem_toArray, List.getElem_cons_zero, List.getElem_cons_succ, List.setIfInBounds_toArray, List.set_cons_zero, List.set_cons_succ])
  refine wpAnyH_take (i := 1) (v := ?_) rfl (by kernel_rfl) (by kernel_rfl) (by kernel_rfl) (fun _ _ _ h => h) (Or.inl ⟨by rfl, ?_⟩) (by assumption) ?_
  rotate_left
  · (intro w' hSw; (try dsimp only at hSw); go_simp; try (with_reducible rfl))
  (try simp only [Act.put, List.getElem_toArray, List.getElem_cons_zero, List.getElem_cons_succ, List.setIfInBounds_toArray, List.set_cons_zero, List.set_cons_succ])
  refine wpAnyH_take (i := 2) (v := ?_) rfl (by kernel_rfl) (by kernel_rfl) (by kernel_rfl) (fun _ _ _ h => h) (Or.inl ⟨by rfl, ?_⟩) (by assumption) ?_
  rotate_left
  · (intro w' hSw; (try dsimp only at hSw); go_simp; try (with_reducible rfl))
  (try simp only [Act.put, List.getElem_toArray, List.getElem_cons_zero, List.getElem_cons_succ, List.setIfInBounds_toArray, List.set_cons_zero, List.set_cons_succ])
  refine wpAnyH_take (i := 3) (v := ?_) rfl (by kernel_rfl) (by kernel_rfl) (by kernel_rfl) (fun _ _ _ h => h) (Or.inl ⟨by rfl, ?_⟩) (by assumption) ?_
  rotate_left
  · (intro w' hSw; (try dsimp only at hSw); go_simp; try (with_reducible rfl))
  (try simp only [Act.put, List.getElem_toArray, List.getElem_cons_zero, List.getElem_cons_succ, List.setIfInBounds_toArray, List.set_cons_zero, List.set_cons_succ])
  refine wpAnyH_take (i := 4) (v := ?_) rfl (by kernel_rfl) (by kernel_rfl) (by kernel_rfl) (fun _ _ _ h => h) (Or.inl ⟨by rfl, ?_⟩) (by assumption) ?_
  rotate_left
  · (intro w' hSw; (try dsimp only at hSw); go_simp; try (with_reducible rfl))
  (try simp only [Act.put, List.getElem_toArray, List.getElem_cons_zero, List.getElem_cons_succ, List.setIfInBounds_toArray, List.set_cons_zero, List.set_cons_succ])
  refine wpAnyH_take (i := 9) (v := ?_) rfl (by kernel_rfl) (by kernel_rfl) (by kernel_rfl) (fun _ _ _ h => h) (Or.inl ⟨by rfl, ?_⟩) (by assumption) ?_
  rotate_left
  · (intro w' hSw; (try dsimp only at hSw); go_simp; try (with_reducible rfl))
  (try simp only [Act.put, List.getElem_toArray, List.getElem_cons_zero, List.getElem_cons_succ, List.setIfInBounds_toArray, List.set_cons_zero, List.set_cons_succ])
  refine wpAnyH_take (i := 10) (v := ?_) rfl (by kernel_rfl) (by kernel_rfl) (by kernel_rfl) (fun _ _ _ h => h) (Or.inl ⟨by rfl, ?_⟩) (by assumption) ?_
  rotate_left
  · (intro w' hSw; (try dsimp only at hSw); go_simp; try (with_reducible rfl))
  (try simp only [Act.put, List.getElem_toArray, List.getElem_cons_zero, List.getElem_cons_succ, List.setIfInBounds_toArray, List.set_cons_zero, List.set_cons_succ])
  refine wpAnyH_ready (rs := [5, 8]) (by kernel_rfl) (by simp) (AllReadyH.cons rfl (fun K hK => ?_) (AllReadyH.cons rfl (fun K hK => ?_) AllReadyH.nil))
  · go_simp
    go_at_call 48
    refine (HD2.out _).mono ?_
    rintro e w3 ⟨rfl, hb3⟩
    have u1 := Nat.lt_of_lt_of_le hHeld.1 hb3.size
    have u2 := (hb3.cell (p := ⟨w1.heap.size, 2, none⟩) hHeld.1).trans hHeld.2.1
    have u3 := (hb3.cell (p := ⟨w1.heap.size, 3, none⟩) hHeld.1).trans hHeld.2.2
    have HB3 := hid hb3
    clear hb3 hHeld
    go_wp2_with fail
    refine hK.out _ _ ⟨u1, u2, u3⟩ (fun hHeld => ?_)
    clear hK K
    (try simp only [Act.put, List.getElem_toArray, List.getElem_cons_zero, List.getElem_cons_succ, List.setIfInBounds_toArray, List.set_cons_zero, List.set_cons_succ])
    refine wpAnyH_take (i := 6) (v := ?_) rfl (by kernel_rfl) (by kernel_rfl) (by kernel_rfl) (fun _ _ _ h => h) (Or.inl ⟨by rfl, ?_⟩) (by assumption) ?_
    rotate_left
    · (intro w' hSw; (try dsimp only at hSw); go_simp; try (with_reducible rfl))
    (try simp only [Act.put, List.getElem_toArray, List.getElem_cons_zero, List.getElem_cons_succ, List.setIfInBounds_toArray, List.set_cons_zero, List.set_cons_succ])
    refine wpAnyH_take (i := 7) (v := ?_) rfl (by kernel_rfl) (by kernel_rfl) (by kernel_rfl) (fun _ _ _ h => h) (Or.inl ⟨by rfl, ?_⟩) (by assumption) ?_
    rotate_left
    · (intro w' hSw; (try dsimp only at hSw); go_simp; try (with_reducible rfl))
    (try simp only [Act.put, List.getElem_toArray, List.getElem_cons_zero, List.getElem_cons_succ, List.setIfInBounds_toArray, List.set_cons_zero, List.set_cons_succ])
    refine wpAnyH_ready (rs := [8]) (by kernel_rfl) (by simp) (AllReadyH.cons rfl (fun K hK => ?_) AllReadyH.nil)
    go_simp
    refine hK.out _ _ ⟨lt_alloc u1 _, by simp [*, World.cell?_alloc_some], by simp [*, World.cell?_alloc_some]⟩ (fun hHeld => ?_)
    clear hK K
    (try simp only [Act.put, List.getElem_toArray, List.getElem_cons_zero, List.getElem_cons_succ, List.setIfInBounds_toArray, List.set_cons_zero, List.set_cons_succ])
    refine wpAnyH_take (i := 11) (v := ?_) rfl (by kernel_rfl) (by kernel_rfl) (by kernel_rfl) (fun _ _ _ h => h) (Or.inl ⟨by rfl, ?_⟩) (by assumption) ?_
    rotate_left
    · (intro w' hSw; (try dsimp only at hSw); go_simp; try (with_reducible rfl))
    (try simp only [Act.put, List.getElem_toArray, List.getElem_cons_zero, List.getElem_cons_succ, List.setIfInBounds_toArray, List.set_cons_zero, List.set_cons_succ])
    refine wpAnyH_ready (rs := [12]) (by kernel_rfl) (by simp) (AllReadyH.cons rfl (fun K hK => ?_) AllReadyH.nil)
    go_simp
    refine hK.out _ _ hHeld (fun hHeld => ?_)
    clear hK K
    (try simp only [Act.put, List.getElem_toArray, List.getElem_cons_zero, List.getElem_cons_succ, List.setIfInBounds_toArray, List.set_cons_zero, List.set_cons_succ])
    refine wpAnyH_take (i := 13) (v := ?_) rfl (by kernel_rfl) (by kernel_rfl) (by kernel_rfl) (fun _ _ _ h => h) (Or.inl ⟨by rfl, ?_⟩) (by assumption) ?_
    rotate_left
    · (intro w' hSw; (try dsimp only at hSw); go_simp; try (with_reducible rfl))
    (try simp only [Act.put, List.getElem_toArray, List.getElem_cons_zero, List.getElem_cons_succ, List.setIfInBounds_toArray, List.set_cons_zero, List.set_cons_succ])
    refine wpAnyH_take (i := 14) (v := ?_) rfl (by kernel_rfl) (by kernel_rfl) (by kernel_rfl) (fun _ _ _ h => h) (Or.inl ⟨by rfl, ?_⟩) (by assumption) ?_
    rotate_left
    · (intro w' hSw; (try dsimp only at hSw); go_simp; try (with_reducible rfl))
    (try simp only [Act.put, List.getElem_toArray, List.getElem_cons_zero, List.getElem_cons_succ, List.setIfInBounds_toArray, List.set_cons_zero, List.set_cons_succ])
    refine wpAnyH_done (by kernel_rfl) ?_ _
    refine NoPanic.normal ?_
    go_wp2
    go_ret
    refine ⟨?_, bnew (bthen HX.out HB3.out) _⟩
    show Ending.returned (.string _) = _
    simp only [nameL, kindL, partL, hx, hy]
    congr 2
    apply ByteArray.ext
    simp
  · have hh := hHeld
    go_simp
    refine hK.out _ _ ⟨lt_alloc hh.1 _, by simp [*, World.cell?_alloc_some], by simp [*, World.cell?_alloc_some]⟩ (fun hHeld => ?_)
    clear hK K
    (try simp only [Act.put, List.getElem_toArray, List.getElem_cons_zero, List.getElem_cons_succ, List.setIfInBounds_toArray, List.set_cons_zero, List.set_cons_succ])
    clear hh
    refine wpAnyH_take (i := 11) (v := ?_) rfl (by kernel_rfl) (by kernel_rfl) (by kernel_rfl) (fun _ _ _ h => h) (Or.inl ⟨by rfl, ?_⟩) (by assumption) ?_
    rotate_left
    · (intro w' hSw; (try dsimp only at hSw); go_simp; try (with_reducible rfl))
    (try simp only [Act.put, List.getElem_toArray, List.getElem_cons_zero, List.getElem_cons_succ, List.setIfInBounds_toArray, List.set_cons_zero, List.set_cons_succ])
    refine wpAnyH_ready (rs := [5, 12]) (by kernel_rfl) (by simp) (AllReadyH.cons rfl (fun K hK => ?_) (AllReadyH.cons rfl (fun K hK => ?_) AllReadyH.nil))
    · go_simp
      go_at_call 48
      refine (HD2.out _).mono ?_
      rintro e w3 ⟨rfl, hb3⟩
      have u1 := Nat.lt_of_lt_of_le hHeld.1 hb3.size
      have u2 := (hb3.cell (p := ⟨w1.heap.size, 2, none⟩) hHeld.1).trans hHeld.2.1
      have u3 := (hb3.cell (p := ⟨w1.heap.size, 3, none⟩) hHeld.1).trans hHeld.2.2
      obtain ⟨u4, u5⟩ := new_cell (W := w2) (v0 := .string ⟨#[103, 97, 116, 101]⟩) (v1 := .string ⟨#[108, 105, 110, 107]⟩) (E := 9) hb3
      have HB3 := hid hb3
      clear hb3 hHeld
      go_wp2_with fail
      refine hK.out _ _ ⟨u1, u2, u3⟩ (fun hHeld => ?_)
      clear hK K
      (try simp only [Act.put, List.getElem_toArray, List.getElem_cons_zero, List.getElem_cons_succ, List.setIfInBounds_toArray, List.set_cons_zero, List.set_cons_succ])
      refine wpAnyH_take (i := 6) (v := ?_) rfl (by kernel_rfl) (by kernel_rfl) (by kernel_rfl) (fun _ _ _ h => h) (Or.inl ⟨by rfl, ?_⟩) (by assumption) ?_
      rotate_left
      · (intro w' hSw; (try dsimp only at hSw); go_simp; try (with_reducible rfl))
      (try simp only [Act.put, List.getElem_toArray, List.getElem_cons_zero, List.getElem_cons_succ, List.setIfInBounds_toArray, List.set_cons_zero, List.set_cons_succ])
      refine wpAnyH_take (i := 7) (v := ?_) rfl (by kernel_rfl) (by kernel_rfl) (by kernel_rfl) (fun _ _ _ h => h) (Or.inl ⟨by rfl, ?_⟩) (by assumption) ?_
      rotate_left
      · (intro w' hSw; (try dsimp only at hSw); go_simp; try (with_reducible rfl))
      (try simp only [Act.put, List.getElem_toArray, List.getElem_cons_zero, List.getElem_cons_succ, List.setIfInBounds_toArray, List.set_cons_zero, List.set_cons_succ])
      refine wpAnyH_ready (rs := [12]) (by kernel_rfl) (by simp) (AllReadyH.cons rfl (fun K hK => ?_) AllReadyH.nil)
      go_simp
      refine hK.out _ _ hHeld (fun hHeld => ?_)
      clear hK K
      (try simp only [Act.put, List.getElem_toArray, List.getElem_cons_zero, List.getElem_cons_succ, List.setIfInBounds_toArray, List.set_cons_zero, List.set_cons_succ])
      refine wpAnyH_take (i := 13) (v := ?_) rfl (by kernel_rfl) (by kernel_rfl) (by kernel_rfl) (fun _ _ _ h => h) (Or.inl ⟨by rfl, ?_⟩) (by assumption) ?_
      rotate_left
      · (intro w' hSw; (try dsimp only at hSw); go_simp; try (with_reducible rfl))
      (try simp only [Act.put, List.getElem_toArray, List.getElem_cons_zero, List.getElem_cons_succ, List.setIfInBounds_toArray, List.set_cons_zero, List.set_cons_succ])
      refine wpAnyH_take (i := 14) (v := ?_) rfl (by kernel_rfl) (by kernel_rfl) (by kernel_rfl) (fun _ _ _ h => h) (Or.inl ⟨by rfl, ?_⟩) (by assumption) ?_
      rotate_left
      · (intro w' hSw; (try dsimp only at hSw); go_simp; try (with_reducible rfl))
      (try simp only [Act.put, List.getElem_toArray, List.getElem_cons_zero, List.getElem_cons_succ, List.setIfInBounds_toArray, List.set_cons_zero, List.set_cons_succ])
      refine wpAnyH_done (by kernel_rfl) ?_ _
      refine NoPanic.normal ?_
      go_wp2
      go_ret
      refine ⟨?_, bthen (bnew HX.out _) HB3.out⟩
      show Ending.returned (.string _) = _
      simp only [nameL, kindL, partL, hx, hy]
      congr 2
      apply ByteArray.ext
      simp
    · go_simp
      refine hK.out _ _ hHeld (fun hHeld => ?_)
      clear hK K
      (try simp only [Act.put, List.getElem_toArray, List.getElem_cons_zero, List.getElem_cons_succ, List.setIfInBounds_toArray, List.set_cons_zero, List.set_cons_succ])
      refine wpAnyH_ready (rs := [5]) (by kernel_rfl) (by simp) (AllReadyH.cons rfl (fun K hK => ?_) AllReadyH.nil)
      go_simp
      go_at_call 48
      refine (HD2.out _).mono ?_
      rintro e w3 ⟨rfl, hb3⟩
      have u1 := Nat.lt_of_lt_of_le hHeld.1 hb3.size
      have u2 := (hb3.cell (p := ⟨w1.heap.size, 2, none⟩) hHeld.1).trans hHeld.2.1
      have u3 := (hb3.cell (p := ⟨w1.heap.size, 3, none⟩) hHeld.1).trans hHeld.2.2
      have HB3 := hid hb3
      clear hb3 hHeld
      go_wp2_with fail
      refine hK.out _ _ ⟨u1, u2, u3⟩ (fun hHeld => ?_)
      clear hK K
      (try simp only [Act.put, List.getElem_toArray, List.getElem_cons_zero, List.getElem_cons_succ, List.setIfInBounds_toArray, List.set_cons_zero, List.set_cons_succ])
      refine wpAnyH_take (i := 6) (v := ?_) rfl (by kernel_rfl) (by kernel_rfl) (by kernel_rfl) (fun _ _ _ h => h) (Or.inl ⟨by rfl, ?_⟩) (by assumption) ?_
      rotate_left
      · (intro w' hSw; (try dsimp only at hSw); go_simp; try (with_reducible rfl))
      (try simp only [Act.put, List.getElem_toArray, List.getElem_cons_zero, List.getElem_cons_succ, List.setIfInBounds_toArray, List.set_cons_zero, List.set_cons_succ])
      refine wpAnyH_take (i := 7) (v := ?_) rfl (by kernel_rfl) (by kernel_rfl) (by kernel_rfl) (fun _ _ _ h => h) (Or.inl ⟨by rfl, ?_⟩) (by assumption) ?_
      rotate_left
      · (intro w' hSw; (try dsimp only at hSw); go_simp; try (with_reducible rfl))
      (try simp only [Act.put, List.getElem_toArray, List.getElem_cons_zero, List.getElem_cons_succ, List.setIfInBounds_toArray, List.set_cons_zero, List.set_cons_succ])
      refine wpAnyH_take (i := 13) (v := ?_) rfl (by kernel_rfl) (by kernel_rfl) (by kernel_rfl) (fun _ _ _ h => h) (Or.inl ⟨by rfl, ?_⟩) (by assumption) ?_
      rotate_left
      · (intro w' hSw; (try dsimp only at hSw); go_simp; try (with_reducible rfl))
      (try simp only [Act.put, List.getElem_toArray, List.getElem_cons_zero, List.getElem_cons_succ, List.setIfInBounds_toArray, List.set_cons_zero, List.set_cons_succ])
      refine wpAnyH_take (i := 14) (v := ?_) rfl (by kernel_rfl) (by kernel_rfl) (by kernel_rfl) (fun _ _ _ h => h) (Or.inl ⟨by rfl, ?_⟩) (by assumption) ?_
      rotate_left
      · (intro w' hSw; (try dsimp only at hSw); go_simp; try (with_reducible rfl))
      (try simp only [Act.put, List.getElem_toArray, List.getElem_cons_zero, List.getElem_cons_succ, List.setIfInBounds_toArray, List.set_cons_zero, List.set_cons_succ])
      refine wpAnyH_done (by kernel_rfl) ?_ _
      refine NoPanic.normal ?_
      go_wp2
      go_ret
      refine ⟨?_, bthen (bnew HX.out _) HB3.out⟩
      show Ending.returned (.string _) = _
      simp only [nameL, kindL, partL, hx, hy]
      congr 2
      apply ByteArray.ext
      simp

end Go.Proofs.YtjekhjjighbfaaaDoor
