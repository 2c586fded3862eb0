/-
  The document's own places: May, Places.
-/
import Derived.Test.YtjfinnjmcnjciaaTup
import Derived.Test.YtjfinnjmcnjciaaRecs
namespace Go.Proofs.Ytjfinnjmcnjciaa
open Go.RowKit

/-- The first A places, one behind the other. -/
noncomputable def PM.recs (m : PM) (A : Nat) : List Int := (List.range A).flatMap fun (a : Nat) => m.tup a
theorem recs_succ (m : PM) (A : Nat) : m.recs (A + 1) = m.recs A ++ m.tup A := by
  unfold PM.recs
  rw [List.range_succ, List.flatMap_append]
  simp
theorem recs_len (m : PM) (A : Nat) : (m.recs A).length = A * 4 := by
  induction A with
  | zero => rfl
  | succ A ih => rw [recs_succ, List.length_append, ih, m.tup_len]; omega
theorem recs_at (m : PM) (A a j : Nat) (ha : a < A) (hj : j < 4) : (m.recs A).getD (a * 4 + j) 0 = (m.tup a).getD j 0 := by
  induction A with
  | zero => omega
  | succ A ih =>
    rw [recs_succ]
    have hl := recs_len m A
    simp only [List.getD_eq_getElem?_getD]
    by_cases h : a < A
    · rw [List.getElem?_append_left (by omega)]
      simpa only [List.getD_eq_getElem?_getD] using ih h
    · obtain rfl : a = A := by omega
      rw [List.getElem?_append_right (by omega), hl, show a * 4 + j - a * 4 = j by omega]

/-- Where a row begins, as a count. -/
def PM.fn (m : PM) (k : Nat) : Nat := (m.from_ k).toNat
theorem fn_cast {m : PM} (h : m.Ok) (k : Nat) (hk : k < 9) : ((m.fn k : Nat) : Int) = m.from_ k := by
  have := m.bounds h k hk
  unfold PM.fn
  omega
theorem tup_n {m : PM} (h : m.Ok) {k i p : Nat} (hh : m.Has k i p) (A : Nat) (hA : (A : Int) = m.from_ k + i * PM.each k + p) : m.tup (A : Int) = tupL m.l.toNat k i p := by
  rw [hA]
  exact m.tup_at h hh

set_option maxHeartbeats 8000000 in
theorem refMay_any (m : PM) (w : World) :
    Calls Try.prog 133 #[m.v] w fun e w' => e = .returned (.bool (pmayB m)) ∧ Below w.heap.size w w' := by
  obtain ⟨s, l, t, c, d⟩ := m
  by_cases h1 : 1 ≤ s
  · by_cases h2 : s ≤ 16
    · by_cases h3 : 0 ≤ l
      · by_cases h4 : l ≤ 4
        · by_cases h5 : 1 ≤ t
          · by_cases h6 : t ≤ 4
            · by_cases h7 : 0 ≤ c
              · by_cases h8 : c ≤ 4
                · by_cases h9 : 0 ≤ d
                  · by_cases h10 : d ≤ 32
                    · have H := hid (pmayB_yes (m := ⟨s, l, t, c, d⟩) ⟨h1, h2, h3, h4, h5, h6, h7, h8, h9, h10⟩)
                      show Calls _ _ #[.agg #[.int .i64 s, .int .i64 l, .int .i64 t, .int .i64 c, .int .i64 d]] _ _
                      go_enter Try.func133, Try.ntmps133
                      go_wp2
                      go_ret
                      exact ⟨by rw [H.out]; rfl, (Below.refl _ _).alloc (Nat.le_refl _) _⟩
                    · have H := hid (pmayB_no (m := ⟨s, l, t, c, d⟩) fun h => h10 h.d2)
                      show Calls _ _ #[.agg #[.int .i64 s, .int .i64 l, .int .i64 t, .int .i64 c, .int .i64 d]] _ _
                      go_enter Try.func133, Try.ntmps133
                      go_wp2
                      go_ret
                      exact ⟨by rw [H.out]; rfl, (Below.refl _ _).alloc (Nat.le_refl _) _⟩
                  · have H := hid (pmayB_no (m := ⟨s, l, t, c, d⟩) fun h => h9 h.d1)
                    show Calls _ _ #[.agg #[.int .i64 s, .int .i64 l, .int .i64 t, .int .i64 c, .int .i64 d]] _ _
                    go_enter Try.func133, Try.ntmps133
                    go_wp2
                    go_ret
                    exact ⟨by rw [H.out]; rfl, (Below.refl _ _).alloc (Nat.le_refl _) _⟩
                · have H := hid (pmayB_no (m := ⟨s, l, t, c, d⟩) fun h => h8 h.c2)
                  show Calls _ _ #[.agg #[.int .i64 s, .int .i64 l, .int .i64 t, .int .i64 c, .int .i64 d]] _ _
                  go_enter Try.func133, Try.ntmps133
                  go_wp2
                  go_ret
                  exact ⟨by rw [H.out]; rfl, (Below.refl _ _).alloc (Nat.le_refl _) _⟩
              · have H := hid (pmayB_no (m := ⟨s, l, t, c, d⟩) fun h => h7 h.c1)
                show Calls _ _ #[.agg #[.int .i64 s, .int .i64 l, .int .i64 t, .int .i64 c, .int .i64 d]] _ _
                go_enter Try.func133, Try.ntmps133
                go_wp2
                go_ret
                exact ⟨by rw [H.out]; rfl, (Below.refl _ _).alloc (Nat.le_refl _) _⟩
            · have H := hid (pmayB_no (m := ⟨s, l, t, c, d⟩) fun h => h6 h.t2)
              show Calls _ _ #[.agg #[.int .i64 s, .int .i64 l, .int .i64 t, .int .i64 c, .int .i64 d]] _ _
              go_enter Try.func133, Try.ntmps133
              go_wp2
              go_ret
              exact ⟨by rw [H.out]; rfl, (Below.refl _ _).alloc (Nat.le_refl _) _⟩
          · have H := hid (pmayB_no (m := ⟨s, l, t, c, d⟩) fun h => h5 h.t1)
            show Calls _ _ #[.agg #[.int .i64 s, .int .i64 l, .int .i64 t, .int .i64 c, .int .i64 d]] _ _
            go_enter Try.func133, Try.ntmps133
            go_wp2
            go_ret
            exact ⟨by rw [H.out]; rfl, (Below.refl _ _).alloc (Nat.le_refl _) _⟩
        · have H := hid (pmayB_no (m := ⟨s, l, t, c, d⟩) fun h => h4 h.l2)
          show Calls _ _ #[.agg #[.int .i64 s, .int .i64 l, .int .i64 t, .int .i64 c, .int .i64 d]] _ _
          go_enter Try.func133, Try.ntmps133
          go_wp2
          go_ret
          exact ⟨by rw [H.out]; rfl, (Below.refl _ _).alloc (Nat.le_refl _) _⟩
      · have H := hid (pmayB_no (m := ⟨s, l, t, c, d⟩) fun h => h3 h.l1)
        show Calls _ _ #[.agg #[.int .i64 s, .int .i64 l, .int .i64 t, .int .i64 c, .int .i64 d]] _ _
        go_enter Try.func133, Try.ntmps133
        go_wp2
        go_ret
        exact ⟨by rw [H.out]; rfl, (Below.refl _ _).alloc (Nat.le_refl _) _⟩
    · have H := hid (pmayB_no (m := ⟨s, l, t, c, d⟩) fun h => h2 h.s2)
      show Calls _ _ #[.agg #[.int .i64 s, .int .i64 l, .int .i64 t, .int .i64 c, .int .i64 d]] _ _
      go_enter Try.func133, Try.ntmps133
      go_wp2
      go_ret
      exact ⟨by rw [H.out]; rfl, (Below.refl _ _).alloc (Nat.le_refl _) _⟩
  · have H := hid (pmayB_no (m := ⟨s, l, t, c, d⟩) fun h => h1 h.s1)
    show Calls _ _ #[.agg #[.int .i64 s, .int .i64 l, .int .i64 t, .int .i64 c, .int .i64 d]] _ _
    go_enter Try.func133, Try.ntmps133
    go_wp2
    go_ret
    exact ⟨by rw [H.out]; rfl, (Below.refl _ _).alloc (Nat.le_refl _) _⟩

theorem infoPlace : (Try.prog.info? 155).map (fun i => (i.zero, i.size, i.bytes)) = some (some (.agg #[.int .i64 0, .int .i64 0, .int .i64 0, .int .i64 0]), 4, 32) := by kernel_rfl

/-- The state while places are gathered: A of them. -/
structure RecAt (m : PM) (bm : Nat) (wB : World) (A : Nat) (v : Value) (wr : World) : Prop where
  row : ∃ g cap, v = .slice (some ⟨g, 0, none⟩) A cap ∧ Recs 155 wr wB.heap.size g cap A (m.recs A)
  map : MapAt 68 wr bm m
  below : Below wB.heap.size wB wr
  lm : bm < wB.heap.size
theorem RecAt.step {m : PM} {bm : Nat} {wB wr w' : World} {A A' : Nat} {v v' : Value} {g cap n : Nat} {zs : List Int} {o : Obj} (h : RecAt m bm wB A v wr) (hi : Recs 155 w' wB.heap.size g cap n zs) (hw : Below wB.heap.size (wr.alloc o) w')
    (hn : n = A') (hz : zs = m.recs A') (hv : v' = .slice (some ⟨g, 0, none⟩) n cap) : RecAt m bm wB A' v' w' := by
  subst hn hz hv
  have hb : Below wB.heap.size wr w' := ((Below.refl _ _).alloc h.below.size o).trans hw
  exact ⟨⟨g, cap, rfl, hi⟩, (hb.block bm h.lm).trans h.map, h.below.trans hb, h.lm⟩

set_option maxRecDepth 100000 in
set_option maxHeartbeats 4000000 in
theorem places_any (m : PM) (w : World) (h : m.Ok) :
    Calls Try.prog 96 #[m.v] w fun e w' => (∃ g cap, e = .returned (.slice (some ⟨g, 0, none⟩) m.size.toNat cap) ∧ Recs 155 w' w.heap.size g cap m.size.toNat (m.recs m.size.toNat)) ∧ Below w.heap.size w w' := by
  have hm := pmayB_yes h
  obtain ⟨i0, hi, hz0, hz1, hz2⟩ := info_parts infoPlace
  have HF := hid (fun k hk => fn_cast h k hk)
  have HB := hid (fun k hk => m.bounds h k hk)
  have HOK := hid h
  have HSZ := hid (m.size_ok h)
  obtain ⟨s1, s2, l1, l2, t1, t2, c1, c2, d1, d2⟩ := h
  obtain ⟨s, l, t, c, d⟩ := m
  dsimp only at s1 s2 l1 l2 t1 t2 c1 c2 d1 d2
  have f2 : PM.fn ⟨s, l, t, c, d⟩ 2 = 2 := rfl
  show Calls _ _ #[.agg #[.int .i64 s, .int .i64 l, .int .i64 t, .int .i64 c, .int .i64 d]] _ _
  go_enter Try.func96, Try.ntmps96
  go_wp2_with (go_at_call 133; refine (refMay_any ⟨s, l, t, c, d⟩ _).mono ?_; rintro e wB ⟨rfl, hb1⟩; obtain ⟨hc1, hf1, hz3⟩ := bcell hb1 (size_alloc1 _ _); have HB1 := hid hb1; clear hb1)
  have HM := hid ((MapAt.new 68 w ⟨s, l, t, c, d⟩).below HB1.out)
  have FF := hid (show ((PM.fn ⟨s, l, t, c, d⟩ 3 : Nat) : Int) = 2 + s ∧ ((PM.fn ⟨s, l, t, c, d⟩ 4 : Nat) : Int) = 2 + s + l * 6 ∧ ((PM.fn ⟨s, l, t, c, d⟩ 5 : Nat) : Int) = 2 + s + l * 6 + t * 2 ∧ ((PM.fn ⟨s, l, t, c, d⟩ 6 : Nat) : Int) = 2 + s + l * 6 + t * 2 + t * l * 2 ∧ ((PM.fn ⟨s, l, t, c, d⟩ 7 : Nat) : Int) = 2 + s + l * 6 + t * 2 + t * l * 2 + t ∧ ((PM.fn ⟨s, l, t, c, d⟩ 8 : Nat) : Int) = 2 + s + l * 6 + t * 2 + t * l * 2 + t + c * 6 ∧ 0 ≤ t * l ∧ t * l ≤ 16
    from ⟨HF.out 3 (by decide), HF.out 4 (by decide), HF.out 5 (by decide), HF.out 6 (by decide), HF.out 7 (by decide), HF.out 8 (by decide), (PM.tl HOK.out).1, (PM.tl HOK.out).2⟩)
  have e2 : PM.recs ⟨s, l, t, c, d⟩ 2 = [1, 0, 0, 0, 2, 0, 0, 0] := by
    have t0 : PM.tup ⟨s, l, t, c, d⟩ ((0 : Nat) : Int) = [1, 0, 0, 0] := tup_n HOK.out (k := 0) (i := 0) (p := 0) ⟨by decide, by show (0 : Int) < 1; decide, by decide⟩ 0 rfl
    have t1 : PM.tup ⟨s, l, t, c, d⟩ ((1 : Nat) : Int) = [2, 0, 0, 0] := tup_n HOK.out (k := 1) (i := 0) (p := 0) ⟨by decide, by show (0 : Int) < 1; decide, by decide⟩ 1 rfl
    rw [recs_succ, recs_succ, t0, t1]
    rfl
  have HS : Hid (RecAt ⟨s, l, t, c, d⟩ w.heap.size wB (2 + 0) (.slice (some ⟨wB.heap.size, 0, none⟩) 2 2) (wB.alloc (.cells #[.int .i64 1, .int .i64 0, .int .i64 0, .int .i64 0, .int .i64 2, .int .i64 0, .int .i64 0, .int .i64 0] 155))) := hid
    ⟨⟨wB.heap.size, 2, rfl, by rw [show 2 + 0 = 2 from rfl, e2]; exact Recs.lit _ 2 wB _ _ rfl rfl (Nat.le_refl _) (by unfold maxLen; decide)⟩, HM.out.alloc _, bnew (bid wB) _, HM.out.lt⟩
  have HBB := hid (bthen (bnew (bid w) (.cells (PM.cells ⟨s, l, t, c, d⟩) 68)) HB1.out)
  clear HB1 HM HF HB hc1 hf1 hz3 e2 f2
  go_loopw [3, 4] (fun v i wr => ∃ k : Nat, (k : Int) ≤ s ∧ i = .int .i64 k ∧ RecAt ⟨s, l, t, c, d⟩ w.heap.size wB (2 + k) v wr) (fun _ i _ => s.toNat - (intOf i).toNat)
  case atStart => exact ⟨0, by omega, rfl, HS.out⟩
  case round =>
    clear HS
    obtain ⟨k, hk, rfl, hg⟩ := hrel
    have HG := hid hg
    obtain ⟨⟨g, cap, rfl, hI⟩, _⟩ := hg
    have HI := hid hI
    obtain ⟨m0, m1, m2, m3, m4, m5⟩ := HG.out.map.facts
    clear hI
    by_cases hlt : (k : Int) < s
    · have hpos : 0 < 2 + k := by
        obtain ⟨f3, f4, f5, f6, f7, f8, htl1, htl2⟩ := FF.out
        omega
      have hbig : 2 + k + 1 ≤ 1000000 := by
        obtain ⟨f3, f4, f5, f6, f7, f8, htl1, htl2⟩ := FF.out
        omega
      have HT : Hid (PM.recs ⟨s, l, t, c, d⟩ (2 + k) ++ [3, (k : Int), 0, 0] = PM.recs ⟨s, l, t, c, d⟩ (2 + (k + 1))) := hid (by
        obtain ⟨f3, f4, f5, f6, f7, f8, htl1, htl2⟩ := FF.out
        have ht := tup_n HOK.out (k := 2) (i := k) (p := 0) ⟨by decide, by simp only [PM.many]; omega, by simp only [PM.each]; omega⟩ (2 + k) (by simp only [PM.from_, PM.each]; omega)
        have er := recs_succ ⟨s, l, t, c, d⟩ (2 + k)
        rw [ht] at er
        have e : tupL (PM.l ⟨s, l, t, c, d⟩).toNat 2 k 0 = [3, (k : Int), 0, 0] := rfl
        rw [e] at er
        exact er.symm)
      have HE : Hid (2 + k + 1 = 2 + (k + 1)) := hid (by omega)
      go_wp2_with (at_builtin; refine wpList_append_recs rfl (.tmp 26) (.tmp 29) 127 rfl Try.underlying127 hi hz0 rfl hz1 hz2 rfl HI.out [3, (k : Int), 0, 0] 1 1 rfl rfl rfl hbig HG.out.below.size hpos ?_; intro g' cap' w' hown' hg'; have HA := hid hown'; have HAB := hid hg'; clear hown' hg')
      go_roundw
      case rel => exact ⟨k + 1, by omega, by go_num, HG.out.step HA.out HAB.out HE.out HT.out rfl⟩
      case measure => simp [intOf]; omega
    · have hkk : k = s.toNat := by omega
      subst hkk
      have HS : Hid (RecAt ⟨s, l, t, c, d⟩ w.heap.size wB (PM.fn ⟨s, l, t, c, d⟩ 3 + 0 * 6 + 0) (.slice (some ⟨g, 0, none⟩) (2 + s.toNat) cap) wr) := hid (by
        have e : PM.fn ⟨s, l, t, c, d⟩ 3 + 0 * 6 + 0 = 2 + s.toNat := by
          obtain ⟨f3, f4, f5, f6, f7, f8, htl1, htl2⟩ := FF.out
          omega
        rw [e]
        exact HG.out)
      clear HG HI
      go_wp2
      go_loopw [3, 5] (fun v i wr => ∃ k : Nat, (k : Int) ≤ l ∧ i = .int .i64 k ∧ RecAt ⟨s, l, t, c, d⟩ w.heap.size wB (PM.fn ⟨s, l, t, c, d⟩ 3 + k * 6 + 0) v wr) (fun _ i _ => l.toNat - (intOf i).toNat)
      case atStart => exact ⟨0, by omega, rfl, HS.out⟩
      case round =>
        clear HS
        obtain ⟨k, hk, rfl, hg⟩ := hrel
        have HG := hid hg
        obtain ⟨⟨g, cap, rfl, hI⟩, _⟩ := hg
        have HI := hid hI
        obtain ⟨m0, m1, m2, m3, m4, m5⟩ := HG.out.map.facts
        clear hI
        by_cases hlt : (k : Int) < l
        · have HS : Hid (RecAt ⟨s, l, t, c, d⟩ w.heap.size wB (PM.fn ⟨s, l, t, c, d⟩ 3 + k * 6 + 0) (.slice (some ⟨g, 0, none⟩) (PM.fn ⟨s, l, t, c, d⟩ 3 + k * 6 + 0) cap) wr) := HG
          clear HG HI
          go_wp2
          clear m0 m1 m2 m3 m4 m5
          go_loopw [3, 6] (fun v i wr => ∃ p : Nat, (p : Int) ≤ 6 ∧ i = .int .i64 p ∧ RecAt ⟨s, l, t, c, d⟩ w.heap.size wB (PM.fn ⟨s, l, t, c, d⟩ 3 + k * 6 + p) v wr) (fun _ i _ => 6 - (intOf i).toNat)
          case atStart => exact ⟨0, by omega, rfl, HS.out⟩
          case round =>
            clear HS
            obtain ⟨p, hp, rfl, hg⟩ := hrel
            have HG := hid hg
            obtain ⟨⟨g, cap, rfl, hI⟩, _⟩ := hg
            have HI := hid hI
            obtain ⟨m0, m1, m2, m3, m4, m5⟩ := HG.out.map.facts
            clear hI
            by_cases hlt2 : (p : Int) < 6
            · have hpos : 0 < PM.fn ⟨s, l, t, c, d⟩ 3 + k * 6 + p := by
                obtain ⟨f3, f4, f5, f6, f7, f8, htl1, htl2⟩ := FF.out
                omega
              have hbig : PM.fn ⟨s, l, t, c, d⟩ 3 + k * 6 + p + 1 ≤ 1000000 := by
                obtain ⟨f3, f4, f5, f6, f7, f8, htl1, htl2⟩ := FF.out
                omega

              have HT : Hid (PM.recs ⟨s, l, t, c, d⟩ (PM.fn ⟨s, l, t, c, d⟩ 3 + k * 6 + p) ++ [4, (k : Int), 0, (p : Int)] = PM.recs ⟨s, l, t, c, d⟩ (PM.fn ⟨s, l, t, c, d⟩ 3 + k * 6 + (p + 1))) := hid (by
                obtain ⟨f3, f4, f5, f6, f7, f8, htl1, htl2⟩ := FF.out
                have ht := tup_n HOK.out (k := 3) (i := k) (p := p) ⟨by decide, by simp only [PM.many]; omega, by simp only [PM.each]; omega⟩ (PM.fn ⟨s, l, t, c, d⟩ 3 + k * 6 + p) (by simp only [PM.from_, PM.each]; omega)
                have er := recs_succ ⟨s, l, t, c, d⟩ (PM.fn ⟨s, l, t, c, d⟩ 3 + k * 6 + p)
                rw [ht] at er
                have e : tupL (PM.l ⟨s, l, t, c, d⟩).toNat 3 k p = [4, (k : Int), 0, (p : Int)] := rfl
                rw [e] at er
                exact er.symm)
              have HE : Hid (PM.fn ⟨s, l, t, c, d⟩ 3 + k * 6 + p + 1 = PM.fn ⟨s, l, t, c, d⟩ 3 + k * 6 + (p + 1)) := hid (by omega)
              go_wp2_with (at_builtin; refine wpList_append_recs rfl (.tmp 41) (.tmp 45) 127 rfl Try.underlying127 hi hz0 rfl hz1 hz2 rfl HI.out [4, (k : Int), 0, (p : Int)] 1 1 rfl rfl rfl hbig HG.out.below.size hpos ?_; intro g' cap' w' hown' hg'; have HA := hid hown'; have HAB := hid hg'; clear hown' hg')
              go_roundw
              case rel => exact ⟨p + 1, by omega, by go_num, HG.out.step HA.out HAB.out HE.out HT.out rfl⟩
              case measure => simp [intOf]; omega
            · have hpp : p = 6 := by omega
              subst hpp
              have HQ : Hid (RecAt ⟨s, l, t, c, d⟩ w.heap.size wB (PM.fn ⟨s, l, t, c, d⟩ 3 + (k + 1) * 6 + 0) (.slice (some ⟨g, 0, none⟩) (PM.fn ⟨s, l, t, c, d⟩ 3 + k * 6 + 6) cap) wr) := hid (by
                have e : PM.fn ⟨s, l, t, c, d⟩ 3 + (k + 1) * 6 + 0 = PM.fn ⟨s, l, t, c, d⟩ 3 + k * 6 + 6 := by
                  omega

                rw [e]
                exact HG.out)
              go_wp2
              go_roundw
              case rel => exact ⟨k + 1, by omega, by go_num, HQ.out⟩
              case measure => simp [intOf]; omega
        · have hkk : k = l.toNat := by omega
          subst hkk
          have HS : Hid (RecAt ⟨s, l, t, c, d⟩ w.heap.size wB (PM.fn ⟨s, l, t, c, d⟩ 4 + 0 * 2) (.slice (some ⟨g, 0, none⟩) (PM.fn ⟨s, l, t, c, d⟩ 3 + l.toNat * 6 + 0) cap) wr) := hid (by
            have e : PM.fn ⟨s, l, t, c, d⟩ 4 + 0 * 2 = PM.fn ⟨s, l, t, c, d⟩ 3 + l.toNat * 6 + 0 := by
              obtain ⟨f3, f4, f5, f6, f7, f8, htl1, htl2⟩ := FF.out
              omega
            rw [e]
            exact HG.out)
          clear HG HI
          go_wp2
          go_loopw [3, 7] (fun v i wr => ∃ k : Nat, (k : Int) ≤ t ∧ i = .int .i64 k ∧ RecAt ⟨s, l, t, c, d⟩ w.heap.size wB (PM.fn ⟨s, l, t, c, d⟩ 4 + k * 2) v wr) (fun _ i _ => t.toNat - (intOf i).toNat)
          case atStart => exact ⟨0, by omega, rfl, HS.out⟩
          case round =>
            clear HS
            obtain ⟨k, hk, rfl, hg⟩ := hrel
            have HG := hid hg
            obtain ⟨⟨g, cap, rfl, hI⟩, _⟩ := hg
            have HI := hid hI
            obtain ⟨m0, m1, m2, m3, m4, m5⟩ := HG.out.map.facts
            clear hI
            by_cases hlt : (k : Int) < t
            · have hpos : 0 < PM.fn ⟨s, l, t, c, d⟩ 4 + k * 2 := by
                obtain ⟨f3, f4, f5, f6, f7, f8, htl1, htl2⟩ := FF.out
                omega
              have hbig : PM.fn ⟨s, l, t, c, d⟩ 4 + k * 2 + 2 ≤ 1000000 := by
                obtain ⟨f3, f4, f5, f6, f7, f8, htl1, htl2⟩ := FF.out
                omega
              have HT : Hid (PM.recs ⟨s, l, t, c, d⟩ (PM.fn ⟨s, l, t, c, d⟩ 4 + k * 2) ++ [5, (k : Int), 0, 0, 5, (k : Int), 0, 1] = PM.recs ⟨s, l, t, c, d⟩ (PM.fn ⟨s, l, t, c, d⟩ 4 + (k + 1) * 2)) := hid (by
                obtain ⟨f3, f4, f5, f6, f7, f8, htl1, htl2⟩ := FF.out
                have ht := tup_n HOK.out (k := 4) (i := k) (p := 0) ⟨by decide, by simp only [PM.many]; omega, by simp only [PM.each]; omega⟩ (PM.fn ⟨s, l, t, c, d⟩ 4 + k * 2) (by simp only [PM.from_, PM.each]; omega)
                have ht2 := tup_n HOK.out (k := 4) (i := k) (p := 1) ⟨by decide, by simp only [PM.many]; omega, by simp only [PM.each]; omega⟩ (PM.fn ⟨s, l, t, c, d⟩ 4 + k * 2 + 1) (by simp only [PM.from_, PM.each]; omega)
                have er := recs_succ ⟨s, l, t, c, d⟩ (PM.fn ⟨s, l, t, c, d⟩ 4 + k * 2)
                have er2 := recs_succ ⟨s, l, t, c, d⟩ (PM.fn ⟨s, l, t, c, d⟩ 4 + k * 2 + 1)
                rw [ht] at er
                rw [ht2, er, List.append_assoc] at er2
                have e : PM.fn ⟨s, l, t, c, d⟩ 4 + (k + 1) * 2 = PM.fn ⟨s, l, t, c, d⟩ 4 + k * 2 + 1 + 1 := by omega
                rw [e, er2]
                rfl)
              have HE : Hid (PM.fn ⟨s, l, t, c, d⟩ 4 + k * 2 + 2 = PM.fn ⟨s, l, t, c, d⟩ 4 + (k + 1) * 2) := hid (by omega)
              go_wp2_with (at_builtin; refine wpList_append_recs rfl (.tmp 53) (.tmp 58) 127 rfl Try.underlying127 hi hz0 rfl hz1 hz2 rfl HI.out [5, (k : Int), 0, 0, 5, (k : Int), 0, 1] 2 2 rfl rfl rfl hbig HG.out.below.size hpos ?_; intro g' cap' w' hown' hg'; have HA := hid hown'; have HAB := hid hg'; clear hown' hg')
              go_roundw
              case rel => exact ⟨k + 1, by omega, by go_num, HG.out.step HA.out HAB.out HE.out HT.out rfl⟩
              case measure => simp [intOf]; omega
            · have hkk : k = t.toNat := by omega
              subst hkk
              have HS : Hid (RecAt ⟨s, l, t, c, d⟩ w.heap.size wB (PM.fn ⟨s, l, t, c, d⟩ 5 + (0 * l.toNat + 0) * 2) (.slice (some ⟨g, 0, none⟩) (PM.fn ⟨s, l, t, c, d⟩ 4 + t.toNat * 2) cap) wr) := hid (by
                have e : PM.fn ⟨s, l, t, c, d⟩ 5 + (0 * l.toNat + 0) * 2 = PM.fn ⟨s, l, t, c, d⟩ 4 + t.toNat * 2 := by
                  obtain ⟨f3, f4, f5, f6, f7, f8, htl1, htl2⟩ := FF.out
                  omega
                rw [e]
                exact HG.out)
              clear HG HI
              go_wp2
              go_loopw [3, 8] (fun v i wr => ∃ k : Nat, (k : Int) ≤ t ∧ i = .int .i64 k ∧ RecAt ⟨s, l, t, c, d⟩ w.heap.size wB (PM.fn ⟨s, l, t, c, d⟩ 5 + (k * l.toNat + 0) * 2) v wr) (fun _ i _ => t.toNat - (intOf i).toNat)
              case atStart => exact ⟨0, by omega, rfl, HS.out⟩
              case round =>
                clear HS
                obtain ⟨k, hk, rfl, hg⟩ := hrel
                have HG := hid hg
                obtain ⟨⟨g, cap, rfl, hI⟩, _⟩ := hg
                have HI := hid hI
                obtain ⟨m0, m1, m2, m3, m4, m5⟩ := HG.out.map.facts
                clear hI
                by_cases hlt : (k : Int) < t
                · have HS : Hid (RecAt ⟨s, l, t, c, d⟩ w.heap.size wB (PM.fn ⟨s, l, t, c, d⟩ 5 + (k * l.toNat + 0) * 2) (.slice (some ⟨g, 0, none⟩) (PM.fn ⟨s, l, t, c, d⟩ 5 + (k * l.toNat + 0) * 2) cap) wr) := HG
                  clear HG HI
                  go_wp2
                  clear m0 m1 m2 m3 m4 m5
                  go_loopw [3, 9] (fun v i wr => ∃ p : Nat, (p : Int) ≤ l ∧ i = .int .i64 p ∧ RecAt ⟨s, l, t, c, d⟩ w.heap.size wB (PM.fn ⟨s, l, t, c, d⟩ 5 + (k * l.toNat + p) * 2) v wr) (fun _ i _ => l.toNat - (intOf i).toNat)
                  case atStart => exact ⟨0, by omega, rfl, HS.out⟩
                  case round =>
                    clear HS
                    obtain ⟨p, hp, rfl, hg⟩ := hrel
                    have HG := hid hg
                    obtain ⟨⟨g, cap, rfl, hI⟩, _⟩ := hg
                    have HI := hid hI
                    obtain ⟨m0, m1, m2, m3, m4, m5⟩ := HG.out.map.facts
                    clear hI
                    by_cases hlt2 : (p : Int) < l
                    · have hpos : 0 < PM.fn ⟨s, l, t, c, d⟩ 5 + (k * l.toNat + p) * 2 := by
                        obtain ⟨f3, f4, f5, f6, f7, f8, htl1, htl2⟩ := FF.out
                        omega
                      have hbig : PM.fn ⟨s, l, t, c, d⟩ 5 + (k * l.toNat + p) * 2 + 2 ≤ 1000000 := by
                        obtain ⟨f3, f4, f5, f6, f7, f8, htl1, htl2⟩ := FF.out
                        have hk4 : k * l.toNat ≤ 4 * 4 := Nat.mul_le_mul (by omega) (by omega)
                        omega

                      have HT : Hid (PM.recs ⟨s, l, t, c, d⟩ (PM.fn ⟨s, l, t, c, d⟩ 5 + (k * l.toNat + p) * 2) ++ [6, (k : Int), (p : Int), 0, 6, (k : Int), (p : Int), 1] = PM.recs ⟨s, l, t, c, d⟩ (PM.fn ⟨s, l, t, c, d⟩ 5 + (k * l.toNat + (p + 1)) * 2)) := hid (by
                        have hl0 : 0 < l.toNat := by omega
                        have hkl : ((k * l.toNat + p : Nat) : Int) < t * l := by
                          have := Nat.mul_le_mul_right l.toNat (show k + 1 ≤ t.toNat by omega)
                          rw [Nat.succ_mul] at this
                          have e : ((t.toNat * l.toNat : Nat) : Int) = t * l := by rw [Int.natCast_mul, show ((t.toNat : Nat) : Int) = t by omega, show ((l.toNat : Nat) : Int) = l by omega]
                          omega
                        have hq1 : (k * l.toNat + p) / l.toNat = k := by rw [Nat.mul_comm, Nat.mul_add_div hl0, Nat.div_eq_of_lt (by omega), Nat.add_zero]
                        have hq2 : (k * l.toNat + p) % l.toNat = p := by rw [Nat.mul_comm, Nat.mul_add_mod, Nat.mod_eq_of_lt (by omega)]
                        obtain ⟨f3, f4, f5, f6, f7, f8, htl1, htl2⟩ := FF.out
                        have ht := tup_n HOK.out (k := 5) (i := (k * l.toNat + p)) (p := 0) ⟨by decide, by simp only [PM.many]; omega, by simp only [PM.each]; omega⟩ (PM.fn ⟨s, l, t, c, d⟩ 5 + (k * l.toNat + p) * 2) (by simp only [PM.from_, PM.each]; omega)
                        have ht2 := tup_n HOK.out (k := 5) (i := (k * l.toNat + p)) (p := 1) ⟨by decide, by simp only [PM.many]; omega, by simp only [PM.each]; omega⟩ (PM.fn ⟨s, l, t, c, d⟩ 5 + (k * l.toNat + p) * 2 + 1) (by simp only [PM.from_, PM.each]; omega)
                        have er := recs_succ ⟨s, l, t, c, d⟩ (PM.fn ⟨s, l, t, c, d⟩ 5 + (k * l.toNat + p) * 2)
                        have er2 := recs_succ ⟨s, l, t, c, d⟩ (PM.fn ⟨s, l, t, c, d⟩ 5 + (k * l.toNat + p) * 2 + 1)
                        rw [ht] at er
                        rw [ht2, er, List.append_assoc] at er2
                        have e : PM.fn ⟨s, l, t, c, d⟩ 5 + (k * l.toNat + (p + 1)) * 2 = PM.fn ⟨s, l, t, c, d⟩ 5 + (k * l.toNat + p) * 2 + 1 + 1 := by omega
                        rw [e, er2]
                        have e1 : tupL (PM.l ⟨s, l, t, c, d⟩).toNat 5 (k * l.toNat + p) 0 = [6, (k : Int), (p : Int), 0] := by simp only [tupL, hq1, hq2]; rfl
                        have e2 : tupL (PM.l ⟨s, l, t, c, d⟩).toNat 5 (k * l.toNat + p) 1 = [6, (k : Int), (p : Int), 1] := by simp only [tupL, hq1, hq2]; rfl
                        rw [e1, e2]
                        rfl)
                      have HE : Hid (PM.fn ⟨s, l, t, c, d⟩ 5 + (k * l.toNat + p) * 2 + 2 = PM.fn ⟨s, l, t, c, d⟩ 5 + (k * l.toNat + (p + 1)) * 2) := hid (by omega)
                      go_wp2_with (at_builtin; refine wpList_append_recs rfl (.tmp 72) (.tmp 79) 127 rfl Try.underlying127 hi hz0 rfl hz1 hz2 rfl HI.out [6, (k : Int), (p : Int), 0, 6, (k : Int), (p : Int), 1] 2 2 rfl rfl rfl hbig HG.out.below.size hpos ?_; intro g' cap' w' hown' hg'; have HA := hid hown'; have HAB := hid hg'; clear hown' hg')
                      go_roundw
                      case rel => exact ⟨p + 1, by omega, by go_num, HG.out.step HA.out HAB.out HE.out HT.out rfl⟩
                      case measure => simp [intOf]; omega
                    · have hpp : p = l.toNat := by omega
                      subst hpp
                      have HQ : Hid (RecAt ⟨s, l, t, c, d⟩ w.heap.size wB (PM.fn ⟨s, l, t, c, d⟩ 5 + ((k + 1) * l.toNat + 0) * 2) (.slice (some ⟨g, 0, none⟩) (PM.fn ⟨s, l, t, c, d⟩ 5 + (k * l.toNat + l.toNat) * 2) cap) wr) := hid (by
                        have e : PM.fn ⟨s, l, t, c, d⟩ 5 + ((k + 1) * l.toNat + 0) * 2 = PM.fn ⟨s, l, t, c, d⟩ 5 + (k * l.toNat + l.toNat) * 2 := by
                          rw [Nat.succ_mul]
                          omega

                        rw [e]
                        exact HG.out)
                      go_wp2
                      go_roundw
                      case rel => exact ⟨k + 1, by omega, by go_num, HQ.out⟩
                      case measure => simp [intOf]; omega
                · have hkk : k = t.toNat := by omega
                  subst hkk
                  have HS : Hid (RecAt ⟨s, l, t, c, d⟩ w.heap.size wB (PM.fn ⟨s, l, t, c, d⟩ 6 + 0) (.slice (some ⟨g, 0, none⟩) (PM.fn ⟨s, l, t, c, d⟩ 5 + (t.toNat * l.toNat + 0) * 2) cap) wr) := hid (by
                    have e : PM.fn ⟨s, l, t, c, d⟩ 6 + 0 = PM.fn ⟨s, l, t, c, d⟩ 5 + (t.toNat * l.toNat + 0) * 2 := by
                      obtain ⟨f3, f4, f5, f6, f7, f8, htl1, htl2⟩ := FF.out
                      have e : ((t.toNat * l.toNat : Nat) : Int) = t * l := by rw [Int.natCast_mul, show ((t.toNat : Nat) : Int) = t by omega, show ((l.toNat : Nat) : Int) = l by omega]
                      omega
                    rw [e]
                    exact HG.out)
                  clear HG HI
                  go_wp2
                  go_loopw [3, 10] (fun v i wr => ∃ k : Nat, (k : Int) ≤ t ∧ i = .int .i64 k ∧ RecAt ⟨s, l, t, c, d⟩ w.heap.size wB (PM.fn ⟨s, l, t, c, d⟩ 6 + k) v wr) (fun _ i _ => t.toNat - (intOf i).toNat)
                  case atStart => exact ⟨0, by omega, rfl, HS.out⟩
                  case round =>
                    clear HS
                    obtain ⟨k, hk, rfl, hg⟩ := hrel
                    have HG := hid hg
                    obtain ⟨⟨g, cap, rfl, hI⟩, _⟩ := hg
                    have HI := hid hI
                    obtain ⟨m0, m1, m2, m3, m4, m5⟩ := HG.out.map.facts
                    clear hI
                    by_cases hlt : (k : Int) < t
                    · have hpos : 0 < PM.fn ⟨s, l, t, c, d⟩ 6 + k := by
                        obtain ⟨f3, f4, f5, f6, f7, f8, htl1, htl2⟩ := FF.out
                        omega
                      have hbig : PM.fn ⟨s, l, t, c, d⟩ 6 + k + 1 ≤ 1000000 := by
                        obtain ⟨f3, f4, f5, f6, f7, f8, htl1, htl2⟩ := FF.out
                        omega
                      have HT : Hid (PM.recs ⟨s, l, t, c, d⟩ (PM.fn ⟨s, l, t, c, d⟩ 6 + k) ++ [7, (k : Int), 0, 0] = PM.recs ⟨s, l, t, c, d⟩ (PM.fn ⟨s, l, t, c, d⟩ 6 + (k + 1))) := hid (by
                        obtain ⟨f3, f4, f5, f6, f7, f8, htl1, htl2⟩ := FF.out
                        have ht := tup_n HOK.out (k := 6) (i := k) (p := 0) ⟨by decide, by simp only [PM.many]; omega, by simp only [PM.each]; omega⟩ (PM.fn ⟨s, l, t, c, d⟩ 6 + k) (by simp only [PM.from_, PM.each]; omega)
                        have er := recs_succ ⟨s, l, t, c, d⟩ (PM.fn ⟨s, l, t, c, d⟩ 6 + k)
                        rw [ht] at er
                        have e : tupL (PM.l ⟨s, l, t, c, d⟩).toNat 6 k 0 = [7, (k : Int), 0, 0] := rfl
                        rw [e] at er
                        exact er.symm)
                      have HE : Hid (PM.fn ⟨s, l, t, c, d⟩ 6 + k + 1 = PM.fn ⟨s, l, t, c, d⟩ 6 + (k + 1)) := hid (by omega)
                      go_wp2_with (at_builtin; refine wpList_append_recs rfl (.tmp 87) (.tmp 90) 127 rfl Try.underlying127 hi hz0 rfl hz1 hz2 rfl HI.out [7, (k : Int), 0, 0] 1 1 rfl rfl rfl hbig HG.out.below.size hpos ?_; intro g' cap' w' hown' hg'; have HA := hid hown'; have HAB := hid hg'; clear hown' hg')
                      go_roundw
                      case rel => exact ⟨k + 1, by omega, by go_num, HG.out.step HA.out HAB.out HE.out HT.out rfl⟩
                      case measure => simp [intOf]; omega
                    · have hkk : k = t.toNat := by omega
                      subst hkk
                      have HS : Hid (RecAt ⟨s, l, t, c, d⟩ w.heap.size wB (PM.fn ⟨s, l, t, c, d⟩ 7 + 0 * 6 + 0) (.slice (some ⟨g, 0, none⟩) (PM.fn ⟨s, l, t, c, d⟩ 6 + t.toNat) cap) wr) := hid (by
                        have e : PM.fn ⟨s, l, t, c, d⟩ 7 + 0 * 6 + 0 = PM.fn ⟨s, l, t, c, d⟩ 6 + t.toNat := by
                          obtain ⟨f3, f4, f5, f6, f7, f8, htl1, htl2⟩ := FF.out
                          omega
                        rw [e]
                        exact HG.out)
                      clear HG HI
                      go_wp2
                      go_loopw [3, 11] (fun v i wr => ∃ k : Nat, (k : Int) ≤ c ∧ i = .int .i64 k ∧ RecAt ⟨s, l, t, c, d⟩ w.heap.size wB (PM.fn ⟨s, l, t, c, d⟩ 7 + k * 6 + 0) v wr) (fun _ i _ => c.toNat - (intOf i).toNat)
                      case atStart => exact ⟨0, by omega, rfl, HS.out⟩
                      case round =>
                        clear HS
                        obtain ⟨k, hk, rfl, hg⟩ := hrel
                        have HG := hid hg
                        obtain ⟨⟨g, cap, rfl, hI⟩, _⟩ := hg
                        have HI := hid hI
                        obtain ⟨m0, m1, m2, m3, m4, m5⟩ := HG.out.map.facts
                        clear hI
                        by_cases hlt : (k : Int) < c
                        · have HS : Hid (RecAt ⟨s, l, t, c, d⟩ w.heap.size wB (PM.fn ⟨s, l, t, c, d⟩ 7 + k * 6 + 0) (.slice (some ⟨g, 0, none⟩) (PM.fn ⟨s, l, t, c, d⟩ 7 + k * 6 + 0) cap) wr) := HG
                          clear HG HI
                          go_wp2
                          clear m0 m1 m2 m3 m4 m5
                          go_loopw [3, 12] (fun v i wr => ∃ p : Nat, (p : Int) ≤ 6 ∧ i = .int .i64 p ∧ RecAt ⟨s, l, t, c, d⟩ w.heap.size wB (PM.fn ⟨s, l, t, c, d⟩ 7 + k * 6 + p) v wr) (fun _ i _ => 6 - (intOf i).toNat)
                          case atStart => exact ⟨0, by omega, rfl, HS.out⟩
                          case round =>
                            clear HS
                            obtain ⟨p, hp, rfl, hg⟩ := hrel
                            have HG := hid hg
                            obtain ⟨⟨g, cap, rfl, hI⟩, _⟩ := hg
                            have HI := hid hI
                            obtain ⟨m0, m1, m2, m3, m4, m5⟩ := HG.out.map.facts
                            clear hI
                            by_cases hlt2 : (p : Int) < 6
                            · have hpos : 0 < PM.fn ⟨s, l, t, c, d⟩ 7 + k * 6 + p := by
                                obtain ⟨f3, f4, f5, f6, f7, f8, htl1, htl2⟩ := FF.out
                                omega
                              have hbig : PM.fn ⟨s, l, t, c, d⟩ 7 + k * 6 + p + 1 ≤ 1000000 := by
                                obtain ⟨f3, f4, f5, f6, f7, f8, htl1, htl2⟩ := FF.out
                                omega

                              have HT : Hid (PM.recs ⟨s, l, t, c, d⟩ (PM.fn ⟨s, l, t, c, d⟩ 7 + k * 6 + p) ++ [8, (k : Int), 0, (p : Int)] = PM.recs ⟨s, l, t, c, d⟩ (PM.fn ⟨s, l, t, c, d⟩ 7 + k * 6 + (p + 1))) := hid (by
                                obtain ⟨f3, f4, f5, f6, f7, f8, htl1, htl2⟩ := FF.out
                                have ht := tup_n HOK.out (k := 7) (i := k) (p := p) ⟨by decide, by simp only [PM.many]; omega, by simp only [PM.each]; omega⟩ (PM.fn ⟨s, l, t, c, d⟩ 7 + k * 6 + p) (by simp only [PM.from_, PM.each]; omega)
                                have er := recs_succ ⟨s, l, t, c, d⟩ (PM.fn ⟨s, l, t, c, d⟩ 7 + k * 6 + p)
                                rw [ht] at er
                                have e : tupL (PM.l ⟨s, l, t, c, d⟩).toNat 7 k p = [8, (k : Int), 0, (p : Int)] := rfl
                                rw [e] at er
                                exact er.symm)
                              have HE : Hid (PM.fn ⟨s, l, t, c, d⟩ 7 + k * 6 + p + 1 = PM.fn ⟨s, l, t, c, d⟩ 7 + k * 6 + (p + 1)) := hid (by omega)
                              go_wp2_with (at_builtin; refine wpList_append_recs rfl (.tmp 102) (.tmp 106) 127 rfl Try.underlying127 hi hz0 rfl hz1 hz2 rfl HI.out [8, (k : Int), 0, (p : Int)] 1 1 rfl rfl rfl hbig HG.out.below.size hpos ?_; intro g' cap' w' hown' hg'; have HA := hid hown'; have HAB := hid hg'; clear hown' hg')
                              go_roundw
                              case rel => exact ⟨p + 1, by omega, by go_num, HG.out.step HA.out HAB.out HE.out HT.out rfl⟩
                              case measure => simp [intOf]; omega
                            · have hpp : p = 6 := by omega
                              subst hpp
                              have HQ : Hid (RecAt ⟨s, l, t, c, d⟩ w.heap.size wB (PM.fn ⟨s, l, t, c, d⟩ 7 + (k + 1) * 6 + 0) (.slice (some ⟨g, 0, none⟩) (PM.fn ⟨s, l, t, c, d⟩ 7 + k * 6 + 6) cap) wr) := hid (by
                                have e : PM.fn ⟨s, l, t, c, d⟩ 7 + (k + 1) * 6 + 0 = PM.fn ⟨s, l, t, c, d⟩ 7 + k * 6 + 6 := by
                                  omega

                                rw [e]
                                exact HG.out)
                              go_wp2
                              go_roundw
                              case rel => exact ⟨k + 1, by omega, by go_num, HQ.out⟩
                              case measure => simp [intOf]; omega
                        · have hkk : k = c.toNat := by omega
                          subst hkk
                          have HS : Hid (RecAt ⟨s, l, t, c, d⟩ w.heap.size wB (PM.fn ⟨s, l, t, c, d⟩ 8 + 0 * 2) (.slice (some ⟨g, 0, none⟩) (PM.fn ⟨s, l, t, c, d⟩ 7 + c.toNat * 6 + 0) cap) wr) := hid (by
                            have e : PM.fn ⟨s, l, t, c, d⟩ 8 + 0 * 2 = PM.fn ⟨s, l, t, c, d⟩ 7 + c.toNat * 6 + 0 := by
                              obtain ⟨f3, f4, f5, f6, f7, f8, htl1, htl2⟩ := FF.out
                              omega
                            rw [e]
                            exact HG.out)
                          clear HG HI
                          go_wp2
                          go_loopw [3, 13] (fun v i wr => ∃ k : Nat, (k : Int) ≤ d ∧ i = .int .i64 k ∧ RecAt ⟨s, l, t, c, d⟩ w.heap.size wB (PM.fn ⟨s, l, t, c, d⟩ 8 + k * 2) v wr) (fun _ i _ => d.toNat - (intOf i).toNat)
                          case atStart => exact ⟨0, by omega, rfl, HS.out⟩
                          case round =>
                            clear HS
                            obtain ⟨k, hk, rfl, hg⟩ := hrel
                            have HG := hid hg
                            obtain ⟨⟨g, cap, rfl, hI⟩, _⟩ := hg
                            have HI := hid hI
                            obtain ⟨m0, m1, m2, m3, m4, m5⟩ := HG.out.map.facts
                            clear hI
                            by_cases hlt : (k : Int) < d
                            · have hpos : 0 < PM.fn ⟨s, l, t, c, d⟩ 8 + k * 2 := by
                                obtain ⟨f3, f4, f5, f6, f7, f8, htl1, htl2⟩ := FF.out
                                omega
                              have hbig : PM.fn ⟨s, l, t, c, d⟩ 8 + k * 2 + 2 ≤ 1000000 := by
                                obtain ⟨f3, f4, f5, f6, f7, f8, htl1, htl2⟩ := FF.out
                                omega
                              have HT : Hid (PM.recs ⟨s, l, t, c, d⟩ (PM.fn ⟨s, l, t, c, d⟩ 8 + k * 2) ++ [9, (k : Int), 0, 0, 10, (k : Int), 0, 0] = PM.recs ⟨s, l, t, c, d⟩ (PM.fn ⟨s, l, t, c, d⟩ 8 + (k + 1) * 2)) := hid (by
                                obtain ⟨f3, f4, f5, f6, f7, f8, htl1, htl2⟩ := FF.out
                                have ht := tup_n HOK.out (k := 8) (i := k) (p := 0) ⟨by decide, by simp only [PM.many]; omega, by simp only [PM.each]; omega⟩ (PM.fn ⟨s, l, t, c, d⟩ 8 + k * 2) (by simp only [PM.from_, PM.each]; omega)
                                have ht2 := tup_n HOK.out (k := 8) (i := k) (p := 1) ⟨by decide, by simp only [PM.many]; omega, by simp only [PM.each]; omega⟩ (PM.fn ⟨s, l, t, c, d⟩ 8 + k * 2 + 1) (by simp only [PM.from_, PM.each]; omega)
                                have er := recs_succ ⟨s, l, t, c, d⟩ (PM.fn ⟨s, l, t, c, d⟩ 8 + k * 2)
                                have er2 := recs_succ ⟨s, l, t, c, d⟩ (PM.fn ⟨s, l, t, c, d⟩ 8 + k * 2 + 1)
                                rw [ht] at er
                                rw [ht2, er, List.append_assoc] at er2
                                have e : PM.fn ⟨s, l, t, c, d⟩ 8 + (k + 1) * 2 = PM.fn ⟨s, l, t, c, d⟩ 8 + k * 2 + 1 + 1 := by omega
                                rw [e, er2]
                                rfl)
                              have HE : Hid (PM.fn ⟨s, l, t, c, d⟩ 8 + k * 2 + 2 = PM.fn ⟨s, l, t, c, d⟩ 8 + (k + 1) * 2) := hid (by omega)
                              go_wp2_with (at_builtin; refine wpList_append_recs rfl (.tmp 114) (.tmp 119) 127 rfl Try.underlying127 hi hz0 rfl hz1 hz2 rfl HI.out [9, (k : Int), 0, 0, 10, (k : Int), 0, 0] 2 2 rfl rfl rfl hbig HG.out.below.size hpos ?_; intro g' cap' w' hown' hg'; have HA := hid hown'; have HAB := hid hg'; clear hown' hg')
                              go_roundw
                              case rel => exact ⟨k + 1, by omega, by go_num, HG.out.step HA.out HAB.out HE.out HT.out rfl⟩
                              case measure => simp [intOf]; omega
                            · have hkk : k = d.toNat := by omega
                              subst hkk
                              have HS2 : Hid (PM.fn ⟨s, l, t, c, d⟩ 8 + d.toNat * 2 = (PM.size ⟨s, l, t, c, d⟩).toNat) := hid (by
                                obtain ⟨f3, f4, f5, f6, f7, f8, htl1, htl2⟩ := FF.out
                                have hz := HSZ.out
                                simp only [PM.from_] at hz
                                omega)
                              have HW := hid (HBB.out.trans (HG.out.below.mono HBB.out.size))
                              have HRR := hid HI.out
                              clear HI
                              go_wp2
                              go_ret
                              refine ⟨⟨g, cap, ?_, ?_⟩, HW.out⟩
                              · rw [← HS2.out]; rfl
                              · rw [← HS2.out]
                                obtain ⟨q1, q2⟩ := HRR.out
                                refine ⟨q1, ?_⟩
                                rcases q2 with q2 | ⟨g', cap', cur, q2, q3, q4⟩
                                · exact .inl q2
                                · exact .inr ⟨g', cap', cur, q2, Nat.le_trans HBB.out.size q3, q4⟩

end Go.Proofs.Ytjfinnjmcnjciaa
