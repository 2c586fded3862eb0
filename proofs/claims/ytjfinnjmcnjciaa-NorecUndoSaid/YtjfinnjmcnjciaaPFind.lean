/-
  The document's own places: Find, and what is told of a place.
-/
import Derived.Test.YtjfinnjmcnjciaaPlaces
import Derived.Test.YtjfinnjmcnjciaaNode
import Derived.Laws.StructEq
namespace Go.Proofs.Ytjfinnjmcnjciaa
open Go.RowKit

set_option maxHeartbeats 1000000 in
theorem places_no (m : PM) (w : World) (h : ¬ m.Ok) :
    Calls Try.prog 96 #[m.v] w fun e w' => e = .returned (.slice none 0 0) ∧ Below w.heap.size w w' := by
  have hm := pmayB_no h
  obtain ⟨s, l, t, c, d⟩ := m
  show Calls _ _ #[.agg #[.int .i64 s, .int .i64 l, .int .i64 t, .int .i64 c, .int .i64 d]] _ _
  go_enter Try.func96, Try.ntmps96
  go_wp2_with (go_at_call 133; refine (refMay_any ⟨s, l, t, c, d⟩ _).mono ?_; rintro e w1 ⟨rfl, hb1⟩; have HB1 := hid hb1; clear hb1)
  go_ret
  exact ⟨rfl, bthen (bnew (bid w) _) HB1.out⟩

/-- Whether four numbers are those. -/
def same4 (a b c d a' b' c' d' : Int) : Bool := (a == a') && (b == b') && (c == c') && (d == d')
theorem same4_iff (a b c d a' b' c' d' : Int) : same4 a b c d a' b' c' d' = true ↔ ([a, b, c, d] : List Int) = [a', b', c', d'] := by simp [same4, and_assoc]

theorem eq_place (a b c d a' b' c' d' : Int) (w : World) :
    (binOp .eql 155 (.agg #[.int .i64 a, .int .i64 b, .int .i64 c, .int .i64 d]) (.agg #[.int .i64 a', .int .i64 b', .int .i64 c', .int .i64 d'])).run Try.prog w = .ok (.bool (same4 a b c d a' b' c' d')) w := by
  have u3 := Try.underlying3
  have a3 := Try.isAgg3
  have z3 := Try.sizeOf3
  have hS : Try.prog.underlying 155 = some (.struct (Try.prog.fieldsOf 155)) := by kernel_rfl
  have hp : Try.prog.stoodInHeld 155 = false := by kernel_rfl
  rw [run_eql_struct, show (10000 : Nat) = 9999 + 1 from rfl, run_equalIn_agg w 9999 155 _ _ hS hp]
  simp only [Program.fieldsOf, Try.underlying155]
  go_simp
  unfold same4
  by_cases h1 : a = a' <;> by_cases h2 : b = b' <;> by_cases h3 : c = c' <;> by_cases h4 : d = d' <;> simp [h1, h2, h3, h4]

theorem list4 {l : List Int} (h : l.length = 4) : l = [l.getD 0 0, l.getD 1 0, l.getD 2 0, l.getD 3 0] := by
  match l, h with
  | [a, b, c, d], _ => rfl

/-- What the loop keeps. -/
structure FindAt (m : PM) (w : World) (bq g cap A : Nat) (qa qb qc qd : Int) (wr : World) : Prop where
  row : Recs 155 wr w.heap.size g cap A (m.recs A)
  box : wr.heap[bq]? = some (.cells #[.int .i64 qa, .int .i64 qb, .int .i64 qc, .int .i64 qd] 155 (0, 0))
  below : Below w.heap.size w wr
theorem FindAt.drewN {m : PM} {w : World} {bq g cap A : Nat} {qa qb qc qd : Int} {wr : World} (h : FindAt m w bq g cap A qa qb qc qd wr) (n : Nat) : FindAt m w bq g cap A qa qb qc qd (wr.drewN n) := by
  have hb : Below wr.heap.size wr (wr.drewN n) := ⟨rfl, rfl, rfl, Nat.le_refl _, fun _ _ => rfl⟩
  exact ⟨h.row.below hb, h.box, bthen h.below hb⟩

set_option maxHeartbeats 2000000 in
theorem find_ok (m : PM) (qa qb qc qd : Int) (w : World) (h : m.Ok) :
    Calls Try.prog 118 #[m.v, .agg #[.int .i64 qa, .int .i64 qb, .int .i64 qc, .int .i64 qd]] w fun e w' => (∃ r, e = .returned (.int .i64 r) ∧ FindIs m [qa, qb, qc, qd] r) ∧ Below w.heap.size w w' := by
  have HP := hid (fun W => places_any m W h)
  obtain ⟨z1, z2⟩ := m.size_bounds h
  have HSZ : Hid ((m.size.toNat : Int) = m.size) := hid (by omega)
  generalize hA : m.size.toNat = A at *
  have hA1 : A ≤ 314 := by omega
  clear hA z1 z2 h
  obtain ⟨s, l, t, c, d⟩ := m
  have hgd : Try.prog.eqGuardType Try.prog.depth 155 = false := by kernel_rfl
  have heq := eq_place
  show Calls _ _ #[.agg #[.int .i64 s, .int .i64 l, .int .i64 t, .int .i64 c, .int .i64 d], _] _ _
  go_enter Try.func118, Try.ntmps118
  go_wp2_with (go_at_call 96; refine (HP.out _).mono ?_; rintro e w1 ⟨⟨g, cap, rfl, hr⟩, hb1⟩; have HR := hid hr; have HB1 := hid hb1; clear hr hb1)
  have HX : Hid (FindAt ⟨s, l, t, c, d⟩ w (w.heap.size + 1) g cap A qa qb qc qd w1) := hid (by
    have hb := bnew (bid (w.alloc (.cells #[.int .i64 s, .int .i64 l, .int .i64 t, .int .i64 c, .int .i64 d] 68))) (.cells #[.int .i64 qa, .int .i64 qb, .int .i64 qc, .int .i64 qd] 155)
    have h0 := heap_alloc_new (w.alloc (.cells #[.int .i64 s, .int .i64 l, .int .i64 t, .int .i64 c, .int .i64 d] 68)) (.cells #[.int .i64 qa, .int .i64 qb, .int .i64 qc, .int .i64 qd] 155)
    rw [size_alloc1] at h0
    refine ⟨?_, ?_, bthen (bnew (bnew (bid w) _) _) HB1.out⟩
    · obtain ⟨q1, q2⟩ := HR.out
      refine ⟨q1, ?_⟩
      rcases q2 with q2 | ⟨g', cap', cur, q2, q3, q4⟩
      · exact .inl q2
      · exact .inr ⟨g', cap', cur, q2, Nat.le_trans (by simp; omega) q3, q4⟩
    · exact (HB1.out.block _ (by simp)).trans h0)
  have hroom := HR.out.room
  unfold maxLen at hroom
  obtain ⟨r1, r2⟩ := hroom
  clear HR HB1
  go_loopw [6] (fun i wr => ∃ k : Nat, k ≤ A ∧ i = .int .i64 k ∧ (∀ j : Nat, j < k → PM.tup ⟨s, l, t, c, d⟩ j ≠ [qa, qb, qc, qd]) ∧ FindAt ⟨s, l, t, c, d⟩ w (w.heap.size + 1) g cap A qa qb qc qd wr) (fun i _ => A - (intOf i).toNat)
  case atStart => exact ⟨0, Nat.zero_le _, rfl, fun j hj => absurd hj (Nat.not_lt_zero j), HX.out⟩
  case round =>
    clear HX
    obtain ⟨k, hk, rfl, hno, hx⟩ := hrel
    have HN := hid hno
    have HX := hid hx
    clear hno hx
    by_cases hlt : k < A
    · have c0 := HX.out.row.cell (j := k * 4) (by omega)
      have c1 := HX.out.row.cell (j := k * 4 + 1) (by omega)
      have c2 := HX.out.row.cell (j := k * 4 + 2) (by omega)
      have c3 := HX.out.row.cell (j := k * 4 + 3) (by omega)
      rw [show (PM.recs ⟨s, l, t, c, d⟩ A).getD (k * 4) 0 = _ from recs_at ⟨s, l, t, c, d⟩ A k 0 hlt (by decide)] at c0
      rw [recs_at _ A k 1 hlt (by decide)] at c1
      rw [recs_at _ A k 2 hlt (by decide)] at c2
      rw [recs_at _ A k 3 hlt (by decide)] at c3
      have HT := hid (list4 (PM.tup_len ⟨s, l, t, c, d⟩ k))
      generalize (PM.tup ⟨s, l, t, c, d⟩ k).getD 0 0 = x0 at *
      generalize (PM.tup ⟨s, l, t, c, d⟩ k).getD 1 0 = x1 at *
      generalize (PM.tup ⟨s, l, t, c, d⟩ k).getD 2 0 = x2 at *
      generalize (PM.tup ⟨s, l, t, c, d⟩ k).getD 3 0 = x3 at *
      have b0 := cell_of_blk HX.out.box 0
      have b1 := cell_of_blk HX.out.box 1
      have b2 := cell_of_blk HX.out.box 2
      have b3 := cell_of_blk HX.out.box 3
      simp only [List.getElem?_toArray, List.getElem?_cons_zero, List.getElem?_cons_succ] at b0 b1 b2 b3
      have i1 : (0 : Int) ≤ (k : Int) := by omega
      have i2 : (k : Int) < (A : Int) := by omega
      cases hs : same4 x0 x1 x2 x3 qa qb qc qd
      · have HS : Hid (PM.tup ⟨s, l, t, c, d⟩ k ≠ [qa, qb, qc, qd]) := hid (fun e => by
          have := (same4_iff x0 x1 x2 x3 qa qb qc qd).2 (by rw [← HT.out, e])
          rw [hs] at this
          cases this)
        go_wp2_with fail
        go_quiet (fail)
        go_wp2
        go_roundw
        case rel =>
          refine ⟨k + 1, by omega, by go_num, fun j hj => ?_, HX.out.drewN nq⟩
          rcases Nat.lt_or_ge j k with hjk | hjk
          · exact HN.out j hjk
          · obtain rfl : j = k := by omega
            exact HS.out
        case measure => simp [intOf]; omega
      · have HS : Hid (PM.tup ⟨s, l, t, c, d⟩ k = [qa, qb, qc, qd]) := hid (by rw [HT.out]; exact (same4_iff x0 x1 x2 x3 qa qb qc qd).1 hs)
        go_wp2_with fail
        go_quiet (fail)
        go_wp2
        go_ret
        refine ⟨⟨k, rfl, .inl ⟨k, rfl, ?_, HS.out⟩⟩, (HX.out.drewN nq).below⟩
        rw [← HSZ.out]
        omega
    · obtain rfl : k = A := by omega
      go_wp2
      go_ret
      refine ⟨⟨-1, rfl, .inr ⟨rfl, fun n hn => HN.out n ?_⟩⟩, HX.out.below⟩
      rw [← HSZ.out] at hn
      omega

set_option maxHeartbeats 1000000 in
theorem find_no (m : PM) (qa qb qc qd : Int) (w : World) (h : ¬ m.Ok) :
    Calls Try.prog 118 #[m.v, .agg #[.int .i64 qa, .int .i64 qb, .int .i64 qc, .int .i64 qd]] w fun e w' => e = .returned (.int .i64 (-1)) ∧ Below w.heap.size w w' := by
  have HP := hid (fun W => places_no m W h)
  obtain ⟨s, l, t, c, d⟩ := m
  show Calls _ _ #[.agg #[.int .i64 s, .int .i64 l, .int .i64 t, .int .i64 c, .int .i64 d], _] _ _
  go_enter Try.func118, Try.ntmps118
  go_wp2_with (go_at_call 96; refine (HP.out _).mono ?_; rintro e w1 ⟨rfl, hb1⟩; have HB1 := hid hb1; clear hb1)
  go_loop [6] (fun i => i = .int .i64 0) (fun _ => 0)
  case atStart => rfl
  case round =>
    subst hrel
    go_wp2
    go_ret
    exact ⟨rfl, bthen (bnew (bnew (bid w) _) _) HB1.out⟩

end Go.Proofs.Ytjfinnjmcnjciaa
