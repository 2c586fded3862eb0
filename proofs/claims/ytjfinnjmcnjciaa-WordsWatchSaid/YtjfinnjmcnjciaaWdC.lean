/-
  What an attempt watches of a lock: both sides' contracts; told.
-/
import Derived.Test.YtjfinnjmcnjciaaWdP
namespace Go.Proofs.Ytjfinnjmcnjciaa
open Go.RowKit
attribute [local go_sem] Later.cell Later.frozen

theorem wd_lit2 (a b : Int) (E : TypeId) (w : World) : IntRow (w.alloc (.cells #[.int .i64 a, .int .i64 b] E)) (some ⟨w.heap.size, 0, none⟩) 2 [a, b] := IntRow.lit [a, b] E w _ rfl 2 rfl
theorem wd_lit1 (a : Int) (E : TypeId) (w : World) : IntRow (w.alloc (.cells #[.int .i64 a] E)) (some ⟨w.heap.size, 0, none⟩) 1 [a] := IntRow.lit [a] E w _ rfl 1 rfl

set_option maxHeartbeats 4000000 in
theorem Watched_any (m : PM) (i : Int) (rw read : Bool) (w : World) :
    Calls Try.prog 37 #[m.v, .int .i64 i, .bool rw, .bool read] w (WatRet w (watL (m.at_ 3 i 4) rw read)) := by
  have HL := hid (fun (p : Int) W => Lock_any m i p W)
  have HT := hid (lock_two m i)
  obtain ⟨s, l, t, c, d⟩ := m
  show Calls _ _ #[.agg #[.int .i64 s, .int .i64 l, .int .i64 t, .int .i64 c, .int .i64 d], _, _, _] _ _
  rcases HT.out with ⟨h4, _⟩ | ⟨h4, _, h5⟩
  · have HR := hid (show watL (PM.at_ ⟨s, l, t, c, d⟩ 3 i 4) rw read = [] from by rw [h4]; rfl)
    rw [HR.out]
    go_enter Try.func37, Try.ntmps37
    go_upto_region 2 with (go_at_call 32; go_must ((with_reducible refine (HL.out _ _).mono ?_); rintro e w1 ⟨rfl, hb⟩; have HB := hid hb; clear hb))
    (try rw [h4])
    go_wp2_with fail
    go_ret
    exact ⟨none, 0, rfl, ⟨rfl, .inl ⟨rfl, rfl⟩⟩, bthen (bnew (bid w) _) HB.out⟩
  · have HR := hid (show watL (PM.at_ ⟨s, l, t, c, d⟩ 3 i 4) rw read = if (rw && !read) = true then [PM.at_ ⟨s, l, t, c, d⟩ 3 i 4, PM.at_ ⟨s, l, t, c, d⟩ 3 i 5] else [PM.at_ ⟨s, l, t, c, d⟩ 3 i 4] from by rw [h5]; unfold watL; rw [if_neg (by omega)])
    rw [HR.out]
    clear HR h5
    have HN := hid (show ¬ PM.at_ ⟨s, l, t, c, d⟩ 3 i 4 < 0 by omega)
    clear h4 HT
    go_enter Try.func37, Try.ntmps37
    go_upto_region 2 with (go_at_call 32; go_must ((with_reducible refine (HL.out _ _).mono ?_); rintro e w1 ⟨rfl, hb⟩; have HMA := hid ((MapAt.new 31 w ⟨s, l, t, c, d⟩).below hb); have HB := hid (bthen (bnew (bid w) _) hb); clear hb))
    obtain ⟨x0, x1, x2, x3, x4, xl⟩ := HMA.out.facts
    have HL5 := hid (HL.out 5)
    clear HL
    have hn := HN.out
    generalize PM.at_ ⟨s, l, t, c, d⟩ 3 i 4 = x at *
    generalize PM.at_ ⟨s, l, t, c, d⟩ 3 i 5 = y at *
    cases rw with
    | false =>
      go_wp2_with fail
      go_ret
      exact ⟨_, _, rfl, wd_lit1 _ _ _, bnew HB.out _⟩
    | true =>
      cases read with
      | true =>
        go_wp2_with fail
        go_ret
        exact ⟨_, _, rfl, wd_lit1 _ _ _, bnew HB.out _⟩
      | false =>
        go_wp2_with (go_at_call 32; go_must ((with_reducible refine (HL5.out _).mono ?_); rintro e w2 ⟨rfl, hb⟩; have HB2 := hid (bthen HB.out hb); clear hb))
        go_ret
        exact ⟨_, _, rfl, wd_lit2 _ _ _ _, bnew HB2.out _⟩

set_option maxHeartbeats 4000000 in
theorem rWatched_any (m : PM) (i : Int) (rw read : Bool) (w : World) :
    Calls Try.prog 38 #[m.v, .int .i64 i, .bool rw, .bool read] w (WatRet w (watL (m.at_ 3 i 4) rw read)) := by
  have HL := hid (fun (p : Int) W => refLock_any m i p W)
  have HT := hid (lock_two m i)
  obtain ⟨s, l, t, c, d⟩ := m
  show Calls _ _ #[.agg #[.int .i64 s, .int .i64 l, .int .i64 t, .int .i64 c, .int .i64 d], _, _, _] _ _
  rcases HT.out with ⟨h4, _⟩ | ⟨h4, h9, _⟩
  · have HR := hid (show watL (PM.at_ ⟨s, l, t, c, d⟩ 3 i 4) rw read = [] from by rw [h4]; rfl)
    rw [HR.out]
    go_enter Try.func38, Try.ntmps38
    go_upto_region 2 with (go_at_call 81; go_must ((with_reducible refine (HL.out _ _).mono ?_); rintro e w1 ⟨rfl, hb⟩; have HB := hid hb; clear hb))
    (try rw [h4])
    go_wp2_with fail
    go_ret
    exact ⟨none, 0, rfl, ⟨rfl, .inl ⟨rfl, rfl⟩⟩, bthen (bnew (bid w) _) HB.out⟩
  · have HR := hid (show watL (PM.at_ ⟨s, l, t, c, d⟩ 3 i 4) rw read = if (rw && !read) = true then [PM.at_ ⟨s, l, t, c, d⟩ 3 i 4, wrap64 (PM.at_ ⟨s, l, t, c, d⟩ 3 i 4 + 1)] else [PM.at_ ⟨s, l, t, c, d⟩ 3 i 4] from by unfold watL; rw [if_neg (by omega), show wrap64 (PM.at_ ⟨s, l, t, c, d⟩ 3 i 4 + 1) = PM.at_ ⟨s, l, t, c, d⟩ 3 i 4 + 1 by unfold wrap64; omega])
    rw [HR.out]
    clear HR
    have HN := hid (show ¬ PM.at_ ⟨s, l, t, c, d⟩ 3 i 4 < 0 by omega)
    clear h4 h9 HT
    go_enter Try.func38, Try.ntmps38
    go_upto_region 2 with (go_at_call 81; go_must ((with_reducible refine (HL.out _ _).mono ?_); rintro e w1 ⟨rfl, hb⟩; have HB := hid (bthen (bnew (bid w) _) hb); clear hb))
    clear HL
    have hn := HN.out
    generalize PM.at_ ⟨s, l, t, c, d⟩ 3 i 4 = x at *
    cases rw with
    | false =>
      go_wp2_with fail
      go_ret
      exact ⟨_, _, rfl, wd_lit1 _ _ _, bnew HB.out _⟩
    | true =>
      cases read with
      | true =>
        go_wp2_with fail
        go_ret
        exact ⟨_, _, rfl, wd_lit1 _ _ _, bnew HB.out _⟩
      | false =>
        go_wp2_with fail
        go_ret
        exact ⟨_, _, rfl, wd_lit2 _ _ _ _, bnew HB.out _⟩

set_option maxHeartbeats 4000000 in
theorem Held_any (m : PM) (i p v : Int) (w : World) :
    Calls Try.prog 42 #[m.v, .int .i64 i, .int .i64 p, .int .i64 v] w fun e w' => e = .returned (.bool (heldF (m.at_ 3 i 4) p v)) ∧ Below w.heap.size w w' := by
  have HL := hid (fun (q : Int) W => Lock_any m i q W)
  have HT := hid (lock_two m i)
  obtain ⟨s, l, t, c, d⟩ := m
  show Calls _ _ #[.agg #[.int .i64 s, .int .i64 l, .int .i64 t, .int .i64 c, .int .i64 d], _, _, _] _ _
  have a0 := wd_and0 v
  have a1 := wd_and1 v
  have a63 := wd_and63 v
  have o1 := wd_or1
  have o63 := wd_or63
  have HL4 := hid (HL.out 4)
  have HL5 := hid (HL.out 5)
  clear HL
  generalize PM.at_ ⟨s, l, t, c, d⟩ 3 i 4 = x at *
  generalize PM.at_ ⟨s, l, t, c, d⟩ 3 i 5 = y at *
  by_cases hp : p = -1
  · subst hp
    have HR := hid (show heldF x (-1) v = false from by
      unfold heldF
      have := HT.out
      by_cases hx : x < 0
      · rw [if_pos hx]
      · rw [if_neg hx, if_neg (by omega), if_neg (by omega)])
    rw [HR.out]
    clear HT HR
    go_enter Try.func42, Try.ntmps42
    go_wp2_with fail
    go_ret
    exact ⟨rfl, bnew (bid w) _⟩
  · have hpb : (p == -1) = false := by simpa using hp
    by_cases h5 : p = y
    · subst h5
      have HR := hid (show heldF x p v = (v % 64 != 0) from by
        unfold heldF
        have := HT.out
        rw [if_neg (by omega), if_neg (by omega), if_pos (by omega)]
        cases e : (v % 64 != 0) <;> simp_all)
      rw [HR.out]
      clear HT HR
      go_enter Try.func42, Try.ntmps42
      go_wp2_with (go_at_call 32; go_must ((with_reducible refine (HL5.out _).mono ?_); rintro e w2 ⟨rfl, hb⟩; have HB2 := hid (bthen (bnew (bid w) _) hb); clear hb))
      go_ret
      exact ⟨rfl, HB2.out⟩
    · have h5b : (p == y) = false := by simpa using h5
      by_cases h4 : p = x
      · subst h4
        have HR := hid (show heldF p p v = (v % 2 != 0) from by
          unfold heldF
          have := HT.out
          rw [if_neg (by omega), if_pos rfl]
          cases e : (v % 2 != 0) <;> simp_all <;> omega)
        rw [HR.out]
        clear HT HR
        go_enter Try.func42, Try.ntmps42
        go_upto_region 5 with (go_at_call 32; go_must ((with_reducible refine (HL5.out _).mono ?_); rintro e w2 ⟨rfl, hb⟩; have HMA := hid ((MapAt.new 31 w ⟨s, l, t, c, d⟩).below hb); have HB2 := hid (bthen (bnew (bid w) _) hb); clear hb))
        obtain ⟨x0, x1, x2, x3, x4, xl⟩ := HMA.out.facts
        go_wp2_with (go_at_call 32; go_must ((with_reducible refine (HL4.out _).mono ?_); rintro e w3 ⟨rfl, hb⟩; have HB3 := hid (bthen HB2.out hb); clear hb))
        go_ret
        exact ⟨rfl, HB3.out⟩
      · have h4b : (p == x) = false := by simpa using h4
        have HR := hid (show heldF x p v = false from by
          unfold heldF
          have := HT.out
          by_cases hx : x < 0
          · rw [if_pos hx]
          · rw [if_neg hx, if_neg h4, if_neg (by omega)])
        rw [HR.out]
        clear HT HR
        go_enter Try.func42, Try.ntmps42
        go_upto_region 5 with (go_at_call 32; go_must ((with_reducible refine (HL5.out _).mono ?_); rintro e w2 ⟨rfl, hb⟩; have HMA := hid ((MapAt.new 31 w ⟨s, l, t, c, d⟩).below hb); have HB2 := hid (bthen (bnew (bid w) _) hb); clear hb))
        obtain ⟨x0, x1, x2, x3, x4, xl⟩ := HMA.out.facts
        go_wp2_with (go_at_call 32; go_must ((with_reducible refine (HL4.out _).mono ?_); rintro e w3 ⟨rfl, hb⟩; have HB3 := hid (bthen HB2.out hb); clear hb))
        go_ret
        exact ⟨rfl, HB3.out⟩

set_option maxHeartbeats 4000000 in
theorem rHeld_any (m : PM) (i p v : Int) (w : World) :
    Calls Try.prog 43 #[m.v, .int .i64 i, .int .i64 p, .int .i64 v] w fun e w' => e = .returned (.bool (heldF (m.at_ 3 i 4) p v)) ∧ Below w.heap.size w w' := by
  have HL := hid (fun W => refLock_any m i 4 W)
  have HT := hid (lock_two m i)
  obtain ⟨s, l, t, c, d⟩ := m
  show Calls _ _ #[.agg #[.int .i64 s, .int .i64 l, .int .i64 t, .int .i64 c, .int .i64 d], _, _, _] _ _
  have a1 := wd_and1 v
  have a63 := wd_and63 v
  generalize PM.at_ ⟨s, l, t, c, d⟩ 3 i 4 = x at *
  by_cases hx : x < 0
  · have HR := hid (show heldF x p v = false from by unfold heldF; rw [if_pos hx])
    rw [HR.out]
    clear HT HR
    have hx2 : ¬ 0 ≤ x := by omega
    go_enter Try.func43, Try.ntmps43
    go_wp2_with (go_at_call 81; go_must ((with_reducible refine (HL.out _).mono ?_); rintro e w2 ⟨rfl, hb⟩; have HB2 := hid (bthen (bnew (bid w) _) hb); clear hb))
    go_ret
    exact ⟨rfl, HB2.out⟩
  · have hx2 : 0 ≤ x := by omega
    have hx3 : wrap64 (x + 1) = x + 1 := by have := HT.out; unfold wrap64; omega
    by_cases h4 : p = x
    · subst h4
      have HR := hid (show heldF p p v = (v % 2 == 1) from by
        unfold heldF
        rw [if_neg hx, if_pos rfl]
        cases e : (v % 2 == 1) <;> simp_all)
      have hne : ¬ p = p + 1 := by omega
      have hneb : (p == p + 1) = false := by simpa using hne
      rw [HR.out]
      clear HT HR hx
      by_cases ho : v % 2 = 1
      · have hob : (v % 2 == 1) = true := by simpa using ho
        rw [hob]
        go_enter Try.func43, Try.ntmps43
        go_wp2_with (go_at_call 81; go_must ((with_reducible refine (HL.out _).mono ?_); rintro e w2 ⟨rfl, hb⟩; have HB2 := hid (bthen (bnew (bid w) _) hb); clear hb))
        go_ret
        exact ⟨rfl, HB2.out⟩
      · have hob : (v % 2 == 1) = false := by simpa using ho
        rw [hob]
        go_enter Try.func43, Try.ntmps43
        go_wp2_with (go_at_call 81; go_must ((with_reducible refine (HL.out _).mono ?_); rintro e w2 ⟨rfl, hb⟩; have HB2 := hid (bthen (bnew (bid w) _) hb); clear hb))
        go_ret
        exact ⟨rfl, HB2.out⟩
    · have h4b : (p == x) = false := by simpa using h4
      by_cases h5 : p = x + 1
      · have HR := hid (show heldF x p v = (v % 64 != 0) from by
          unfold heldF
          rw [if_neg hx, if_neg h4, if_pos h5]
          cases e : (v % 64 != 0) <;> simp_all)
        have h5b : (p == x + 1) = true := by simpa using h5
        rw [HR.out]
        clear HT HR hx
        subst h5
        go_enter Try.func43, Try.ntmps43
        go_wp2_with (go_at_call 81; go_must ((with_reducible refine (HL.out _).mono ?_); rintro e w2 ⟨rfl, hb⟩; have HB2 := hid (bthen (bnew (bid w) _) hb); clear hb))
        go_ret
        exact ⟨rfl, HB2.out⟩
      · have HR := hid (show heldF x p v = false from by
          unfold heldF
          rw [if_neg hx, if_neg h4, if_neg h5])
        have h5b : (p == x + 1) = false := by simpa using h5
        rw [HR.out]
        clear HT HR hx
        go_enter Try.func43, Try.ntmps43
        go_wp2_with (go_at_call 81; go_must ((with_reducible refine (HL.out _).mono ?_); rintro e w2 ⟨rfl, hb⟩; have HB2 := hid (bthen (bnew (bid w) _) hb); clear hb))
        go_ret
        exact ⟨rfl, HB2.out⟩

end Go.Proofs.Ytjfinnjmcnjciaa
