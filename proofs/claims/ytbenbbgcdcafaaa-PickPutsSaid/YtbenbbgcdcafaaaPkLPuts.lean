/-
  PickPuts, walked.
-/
import Derived.Test.YtbenbbgcdcafaaaPkLReads
import Derived.Laws.BytesArg
import Derived.BigRegion
namespace Go.Proofs.Ytbenbbgcdcafaaa
open Go.RowKit
set_option linter.unusedVariables false

theorem u64_posP (n : Int) : 0 ≤ IntKind.u64.wrap n := by
  unfold IntKind.wrap
  simp [IntKind.bits, IntKind.signed]
  try omega
/-- A pick made near. -/
def nearF (p : Pk) : Pk := ⟨IntKind.u64.wrap p.t % 4, p.a, IntKind.u64.wrap p.d % 16⟩
theorem nearF_ok (p : Pk) : (nearF p).ok = true := by
  have h1 := u64_posP p.t
  have h2 := u64_posP p.d
  unfold Pk.ok nearF
  dsimp only
  rw [inB_yes (by omega) (by omega), inB_yes (by omega) (by omega)]
  rfl
theorem near4 (x : Int) : wrap64 ((IntKind.u64.wrap x).tmod 4) = IntKind.u64.wrap x % 4 := by
  have h := u64_posP x
  rw [Int.tmod_eq_emod_of_nonneg h]
  unfold wrap64
  omega
theorem near16 (x : Int) : wrap64 ((IntKind.u64.wrap x).tmod 16) = IntKind.u64.wrap x % 16 := by
  have h := u64_posP x
  rw [Int.tmod_eq_emod_of_nonneg h]
  unfold wrap64
  omega
/-- The state of the loop: the first k are near. -/
structure NearAt (w : World) (ps : List Pk) (n : Nat) (v : Value) (k : Nat) (wr : World) : Prop where
  own : OwnPk w.heap.size v ((ps.take k).map nearF ++ ps.drop k) wr
  below : Below w.heap.size w wr

theorem OwnPk.head {B n c : Nat} {x : Option Addr} {ps : List Pk} {w : World} (h : OwnPk B (.slice x n c) ps w) (hn : 0 < n) : ∃ g, x = some ⟨g, 0, none⟩ := by
  rcases h.row.2 with ⟨h1, _⟩ | ⟨g, cap, cur, h1, _⟩
  · simp only [Value.slice.injEq] at h1; omega
  · simp only [Value.slice.injEq] at h1
    exact ⟨g, h1.1⟩
theorem near_at {ps : List Pk} {n k : Nat} (hn : ps.length = n) (hk : k < n) {p : Pk} (hp : ps[k]? = some p) : ((ps.take k).map nearF ++ ps.drop k)[k]? = some p := by
  rw [List.getElem?_append_right (by simp; omega)]
  simp only [List.length_map, List.length_take, List.getElem?_drop]
  rw [show k + (k - min k ps.length) = k by omega]
  exact hp

theorem pkCells_set2 {ps : List Pk} {k : Nat} {p : Pk} (hp : ps[k]? = some p) (t d : Int) : pkCells (ps.set k ⟨t, p.a, d⟩) = ((pkCells ps).set (k * 3) (.int .i64 t)).set (k * 3 + 2) (.int .i64 d) := by
  have hk := (List.getElem?_eq_some_iff.1 hp).1
  rw [pkCells_set ps k _ hk]
  obtain ⟨g0, g1, g2⟩ := pkCells_at ps k p hp
  apply List.ext_getElem?
  intro j
  simp only [List.getElem?_set, List.length_set]
  have hl := pkCells_len ps
  by_cases h2 : k * 3 + 2 = j
  · subst h2
    rw [if_pos rfl, if_pos rfl]
  · rw [if_neg h2, if_neg h2]
    by_cases h3 : k * 3 + 1 = j
    · subst h3
      rw [if_pos rfl, if_pos (by omega), if_neg (by omega), g1]
    · rw [if_neg h3]
theorem OwnPk.put2 {B g n c : Nat} {ps : List Pk} {w : World} (h : OwnPk B (.slice (some ⟨g, 0, none⟩) n c) ps w) {k : Nat} {p : Pk} (hp : ps[k]? = some p) (t d : Int) :
    OwnPk B (.slice (some ⟨g, 0, none⟩) n c) (ps.set k ⟨t, p.a, d⟩) ((w.setCell ⟨g, k * 3, none⟩ (.int .i64 t)).setCell ⟨g, k * 3 + 2, none⟩ (.int .i64 d)) := by
  obtain rfl := h.count
  have h1 := (h.row.stored (k * 3) (.int .i64 t)).1
  have h2 := (h1.stored (k * 3 + 2) (.int .i64 d)).1
  refine ⟨?_⟩
  rw [pkCells_set2 hp, List.length_set]
  exact h2
theorem NearAt.step {w wr : World} {ps : List Pk} {n k g c : Nat} (h : NearAt w ps n (.slice (some ⟨g, 0, none⟩) n c) k wr) (hn : ps.length = n) (hk : k < n) {p : Pk} (hp : ps[k]? = some p) (hg : w.heap.size ≤ g) :
    NearAt w ps n (.slice (some ⟨g, 0, none⟩) n c) (k + 1) ((wr.setCell ⟨g, k * 3, none⟩ (.int .i64 (IntKind.u64.wrap p.t % 4))).setCell ⟨g, k * 3 + 2, none⟩ (.int .i64 (IntKind.u64.wrap p.d % 16))).drew := by
  have h1 := h.own.put2 (near_at hn hk hp) (IntKind.u64.wrap p.t % 4) (IntKind.u64.wrap p.d % 16)
  refine ⟨?_, bdrew ((h.below.setCell hg _).setCell hg _)⟩
  have e : ((ps.take k).map nearF ++ ps.drop k).set k ⟨IntKind.u64.wrap p.t % 4, p.a, IntKind.u64.wrap p.d % 16⟩ = (ps.take (k + 1)).map nearF ++ ps.drop (k + 1) := by
    have hl : ((ps.take k).map nearF).length = k := by simp; omega
    have hkl : k < ps.length := by omega
    rw [List.set_append, if_neg (by omega), hl, Nat.sub_self, List.take_add_one, hp, List.drop_eq_getElem_cons hkl, List.set_cons_zero]
    obtain ⟨_, he⟩ := List.getElem?_eq_some_iff.1 hp
    simp [nearF]
  rw [← e]
  exact h1.below (bdrew (bid _))

theorem conv_nil (w : World) : (convert 22 9 (.slice none 0 0)).run Try.prog w = .ok (.string ByteArray.empty) w := run_convert_bytes_nil w _ _ Try.underlying22 Try.underlying5 0 0 _ Try.underlying9
theorem read_by {p : Pk} (h : p.ok = true) : readF p.by = p := by
  unfold Pk.ok at h
  rw [Bool.and_eq_true, inB_iff, inB_iff] at h
  obtain ⟨t, a, d⟩ := p
  obtain ⟨T, rfl⟩ := Int.eq_ofNat_of_zero_le h.1.1
  obtain ⟨D, rfl⟩ := Int.eq_ofNat_of_zero_le h.2.1
  have key : ∀ T : Fin 4, ∀ a : Bool, ∀ D : Fin 16, (readF (Pk.by ⟨(T.1 : Int), a, (D.1 : Int)⟩)).t = (T.1 : Int) ∧ (readF (Pk.by ⟨(T.1 : Int), a, (D.1 : Int)⟩)).a = a ∧ (readF (Pk.by ⟨(T.1 : Int), a, (D.1 : Int)⟩)).d = (D.1 : Int) := by decide +kernel
  have h1 := h.1.2
  have h2 := h.2.2
  dsimp only at h1 h2
  obtain ⟨k1, k2, k3⟩ := key ⟨T, by omega⟩ a ⟨D, by omega⟩
  dsimp only at k1 k2 k3
  generalize readF (Pk.by ⟨(T : Int), a, (D : Int)⟩) = q at *
  obtain ⟨qt, qa, qd⟩ := q
  dsimp only at k1 k2 k3
  subst k1 k2 k3
  rfl
theorem read_all {ps : List Pk} (h : ps.all Pk.ok = true) : (ps.map Pk.by).map readF = ps := by
  rw [List.map_map]
  have : ∀ p ∈ ps, (readF ∘ Pk.by) p = p := fun p hp => read_by (List.all_eq_true.1 h p hp)
  exact (List.map_congr_left this).trans (List.map_id ps)
theorem all_near (ps : List Pk) : (ps.map nearF).all Pk.ok = true := by
  rw [List.all_eq_true]
  intro p hp
  obtain ⟨q, _, rfl⟩ := List.mem_map.1 hp
  exact nearF_ok q
theorem RPut_yes (a : Option Addr) (len cap : Nat) (ps : List Pk) (w : World) (hr : PkRow w a len ps) (hl : len ≤ 1000) (hok : ps.all Pk.ok = true) :
    Calls Try.prog 13 #[.slice a len cap] w fun e w' => ∃ v, e = .returned (.tuple #[v, .bool true]) ∧ OwnBy w.heap.size v (ps.map Pk.by) w' ∧ Below w.heap.size w w' := by
  refine (RPut_any a len cap ps w hr hl).mono fun e w' h => ?_
  obtain ⟨⟨_, v, h1, h2⟩ | ⟨h0, _⟩, h3⟩ := h
  · exact ⟨v, h1, h2, h3⟩
  · rw [hok] at h0; cases h0
theorem Put_no (a : Option Addr) (len cap : Nat) (ps : List Pk) (w : World) (hr : PkRow w a len ps) (hl : len ≤ 1000) (hok : ps.all Pk.ok = false) :
    Calls Try.prog 12 #[.slice a len cap] w fun e w' => e = .returned (.tuple #[.slice none 0 0, .bool false]) ∧ Below w.heap.size w w' := by
  refine (Put_any a len cap ps w hr hl).mono fun e w' h => ?_
  obtain ⟨⟨h0, _⟩ | ⟨_, h1⟩, h3⟩ := h
  · rw [hok] at h0; cases h0
  · exact ⟨h1, h3⟩
theorem RPut_no (a : Option Addr) (len cap : Nat) (ps : List Pk) (w : World) (hr : PkRow w a len ps) (hl : len ≤ 1000) (hok : ps.all Pk.ok = false) :
    Calls Try.prog 13 #[.slice a len cap] w fun e w' => e = .returned (.tuple #[.slice none 0 0, .bool false]) ∧ Below w.heap.size w w' := by
  refine (RPut_any a len cap ps w hr hl).mono fun e w' h => ?_
  obtain ⟨⟨h0, _⟩ | ⟨_, h1⟩, h3⟩ := h
  · rw [hok] at h0; cases h0
  · exact ⟨h1, h3⟩
theorem OwnPk.rowX {B n c : Nat} {x : Option Addr} {ps : List Pk} {w : World} (h : OwnPk B (.slice x n c) ps w) : PkRow w x n ps := by
  obtain ⟨a, c', e, hr, _⟩ := h.shape
  simp only [Value.slice.injEq] at e
  obtain ⟨rfl, rfl, _⟩ := e
  exact hr
/-- The text that bytes are. -/
def strOf (bs : List Nat) : ByteArray := strOfNums (bs.map fun (b : Nat) => (b : Int))
theorem conv_own {B n c : Nat} {x : Option Addr} {bs : List Nat} {w : World} (h : OwnBy B (.slice x n c) bs w) : (convert 22 9 (.slice x n c)).run Try.prog w = .ok (.string (strOf bs)) w := by
  rcases h.row.2 with ⟨h1, h0⟩ | ⟨g, cap, cur, h1, _⟩
  · simp only [Value.slice.injEq] at h1
    obtain ⟨rfl, rfl, rfl⟩ := h1
    obtain rfl := List.eq_nil_of_length_eq_zero h0
    rw [run_convert_bytes_nil w _ _ Try.underlying22 Try.underlying5 0 0 _ Try.underlying9]
    rfl
  · simp only [Value.slice.injEq] at h1
    obtain ⟨rfl, rfl, rfl⟩ := h1
    refine run_convert_bytes_arg w _ _ Try.underlying22 Try.underlying5 g 0 _ _ _ (by simp) (fun i hi => ?_) _ Try.underlying9
    rw [Nat.zero_add, h.at0 (List.getElem?_eq_getElem hi)]
    simp [hi]

set_option maxRecDepth 100000 in
set_option maxHeartbeats 4000000 in
theorem puts_false (a : Option Addr) (len cap : Nat) (ps : List Pk) (w : World) (hr : PkRow w a len ps) (hnc : a = none → len = 0 ∧ cap = 0) (hlm : len ≤ maxLen) :
    Calls Try.prog 4 #[.slice a len cap, .bool false] w fun e w' => e = .returned (.bool true) ∧ Below w.heap.size w w' := by
  unfold maxLen at hlm
  obtain ⟨i0, hi, hz0, hz1, hz2⟩ := info_parts infoPk
  have HT := hid told7
  have HR := hid hr
  clear hr
  by_cases hl : len ≤ 30
  · have HO0 := hid (OwnPk.lit0 w w.heap.size)
    have HRW := hid (HR.out.below (bnew (bid w) (.cells #[] 32)))
    have hB0 : w.heap.size ≤ (w.alloc (.cells #[] 32)).heap.size := by simp
    have hl0 : ([] : List Pk).length + len ≤ 1000000 := by simp; omega
    go_enter Try.func4, Try.ntmps4
    go_upto_region 4 with (at_builtin; go_loud (refine wpList_append_pkRow (W := w.alloc _) (v := .slice (some ⟨w.heap.size, 0, none⟩) 0 0) rfl (.tmp 15) (.tmp 16) 24 rfl Try.underlying24 hi hz0 rfl hz1 hz2 rfl HO0.out rfl HRW.out hnc hl0 hB0 ?_); intro v' w' hown' hat hg'; have HA := hid hown'; have HG := hid hg'; clear hown' hat hg')
    have hcnt := HR.out.cnt
    have HBW : Hid (Below w.heap.size w w') := hid ((bnew (bid w) _).trans (HG.out.below hB0 (by
      intro j hj e
      have e2 : w.heap.size = j := by simpa [Value.ownBlock] using e
      omega)))
    have hown := HA.out
    rw [List.nil_append] at hown
    obtain ⟨x, c, rfl, hx, hn1, hc1, hm1⟩ := hown.shape
    rw [hcnt] at hown hx hc1 ⊢
    have HN : Hid (NearAt w ps len (.slice x len c) 0 w') := hid ⟨by simpa using hown, HBW.out⟩
    clear hown hx hn1 hc1 hm1 HA HG HBW HO0 HRW hB0 hl0
    have HCN := hid hcnt
    clear hcnt
    go_wp2_with fail
    go_loopw [6] (fun i wr => ∃ k : Nat, k ≤ len ∧ i = .int .i64 k ∧ NearAt w ps len (.slice x len c) k wr) (fun i _ => len - (intOf i).toNat)
    case atStart => exact ⟨0, Nat.zero_le _, rfl, HN.out⟩
    case round =>
      clear HN
      obtain ⟨k, hk, rfl, hs⟩ := hrel
      have HS := hid hs
      clear hs
      by_cases hlt : k < len
      · obtain ⟨g, rfl⟩ := HS.out.own.head (by omega)
        obtain ⟨p, hp⟩ : ∃ p, ps[k]? = some p := ⟨_, List.getElem?_eq_getElem (by have := HCN.out; omega)⟩
        have HP := hid hp
        obtain ⟨x0, x1, x2⟩ := HS.out.own.at (k := k) (p := p) (near_at HCN.out hlt hp)
        have fz := HS.out.own.frozen
        have hg := HS.out.own.old rfl
        obtain ⟨t, ab, d⟩ := p
        dsimp only at x0 x1 x2
        clear hp
        go_wp2
        go_region
        simp only [near4, near16]
        go_wp2
        go_roundw
        case rel => exact ⟨k + 1, by omega, by go_num, HS.out.step HCN.out hlt (p := ⟨t, ab, d⟩) HP.out hg.1⟩
        case measure => simp [intOf]; omega
      · obtain rfl : k = len := by omega
        have HQ : Hid (OwnPk w.heap.size (.slice x k c) (ps.map nearF) wr) := hid (by
          have h1 := HS.out.own
          rw [List.take_of_length_le (by rw [HCN.out]; exact Nat.le_refl _), List.drop_eq_nil_of_le (by rw [HCN.out]; exact Nat.le_refl _), List.append_nil] at h1
          exact h1)
        have HQB := hid HS.out.below
        have HOK := hid (all_near ps)
        have HQL : Hid ((ps.map nearF).length = k) := hid (by rw [List.length_map, HCN.out])
        generalize ps.map nearF = qs at HQ HOK HQL
        clear HS
        have HX1 := hid HQ.out.rowX
        go_upto_region 9 with (go_at_call 12; (with_reducible refine (Put_yes _ _ _ _ _ HX1.out (by omega) HOK.out).mono ?_); rintro e w4 ⟨v4, rfl, ho4, hb4⟩; have HO4 := hid ho4; have HB4 := hid hb4; clear ho4 hb4)
        obtain ⟨x4, c4, rfl, hx4, hn4, hc4, hm4⟩ := HO4.out.shape (by_small HOK.out)
        rw [List.length_map, HQL.out] at hx4 ⊢
        have HX4 := hid hx4
        clear hx4 hn4 hc4 hm4
        go_upto_region 10 with (go_at_call 13; (with_reducible refine (RPut_yes _ _ _ _ _ (HX1.out.below HB4.out) (by omega) HOK.out).mono ?_); rintro e w5 ⟨v5, rfl, ho5, hb5⟩; have HO5 := hid ho5; have HB5 := hid hb5; clear ho5 hb5)
        obtain ⟨x5, c5, rfl, hx5, hn5, hc5, hm5⟩ := HO5.out.shape (by_small HOK.out)
        rw [List.length_map, HQL.out] at hx5 ⊢
        have HX5 := hid hx5
        clear hx5 hn5 hc5 hm5
        have hq1 := conv_own (HO4.out.below HB5.out)
        have hq2 := conv_own HO5.out
        rw [List.length_map, HQL.out] at hq1 hq2
        generalize strOf (qs.map Pk.by) = S at hq1 hq2
        have HX1L := hid (fun W (hb : Below w5.heap.size w5 W) => HX1.out.below (bthen (bthen HB4.out HB5.out) hb))
        have HX4L := hid (fun W (hb : Below w5.heap.size w5 W) => HX4.out.below (bthen HB5.out hb))
        have HRB := hid (read_all HOK.out)
        have hk1 : k ≤ 1000 := by omega
        have hk2 : k ≤ 100000 := by omega
        go_wp2_with (first | (go_at_call 8; (with_reducible refine (HT.out _).mono ?_); rintro e w6 ⟨rfl, hb6⟩; have HB6 := hid hb6; clear hb6) | (go_at_call 9; (with_reducible refine (Read_any _ _ _ _ _ (HX4L.out _ HB6.out) hk1).mono ?_); rintro e w7 ⟨v7, rfl, ho7, hb7⟩; rw [HRB.out] at ho7; obtain ⟨x7, c7, rfl, hx7, -, -, -⟩ := ho7.shape; rw [HQL.out] at hx7 ⊢; have HX7 := hid hx7; have HB7 := hid hb7; clear ho7 hx7 hb7) | (go_at_call 10; (with_reducible refine (Same_yes _ _ _ _ _ _ _ HX7.out (HX1L.out _ (bthen HB6.out HB7.out)) hk2).mono ?_); rintro e w8 ⟨rfl, hb8⟩; have HB8 := hid hb8; clear hb8))
        go_ret
        exact ⟨rfl, bthen (bthen (bthen (bthen (bthen HQB.out HB4.out) HB5.out) HB6.out) HB7.out) HB8.out⟩
  · go_enter Try.func4, Try.ntmps4
    go_wp2_with (go_at_call 8; (with_reducible refine (HT.out _).mono ?_); rintro e w5 ⟨rfl, hb5⟩; have HB5 := hid hb5; clear hb5)
    go_ret
    exact ⟨rfl, HB5.out⟩

set_option maxRecDepth 100000 in
set_option maxHeartbeats 4000000 in
theorem puts_true (a : Option Addr) (len cap : Nat) (ps : List Pk) (w : World) (hr : PkRow w a len ps) (hnc : a = none → len = 0 ∧ cap = 0) (hlm : len ≤ maxLen) :
    Calls Try.prog 4 #[.slice a len cap, .bool true] w fun e w' => e = .returned (.bool true) ∧ Below w.heap.size w w' := by
  unfold maxLen at hlm
  obtain ⟨i0, hi, hz0, hz1, hz2⟩ := info_parts infoPk
  have HT := hid told7
  have HR := hid hr
  clear hr
  by_cases hl : len ≤ 30
  · have HO0 := hid (OwnPk.lit0 w w.heap.size)
    have HRW := hid (HR.out.below (bnew (bid w) (.cells #[] 32)))
    have hB0 : w.heap.size ≤ (w.alloc (.cells #[] 32)).heap.size := by simp
    have hl0 : ([] : List Pk).length + len ≤ 1000000 := by simp; omega
    go_enter Try.func4, Try.ntmps4
    go_upto_region 4 with (at_builtin; go_loud (refine wpList_append_pkRow (W := w.alloc _) (v := .slice (some ⟨w.heap.size, 0, none⟩) 0 0) rfl (.tmp 15) (.tmp 16) 24 rfl Try.underlying24 hi hz0 rfl hz1 hz2 rfl HO0.out rfl HRW.out hnc hl0 hB0 ?_); intro v' w' hown' hat hg'; have HA := hid hown'; have HG := hid hg'; clear hown' hat hg')
    have hcnt := HR.out.cnt
    have HBW : Hid (Below w.heap.size w w') := hid ((bnew (bid w) _).trans (HG.out.below hB0 (by
      intro j hj e
      have e2 : w.heap.size = j := by simpa [Value.ownBlock] using e
      omega)))
    have hown := HA.out
    rw [List.nil_append] at hown
    obtain ⟨x, c, rfl, hx, hn1, hc1, hm1⟩ := hown.shape
    rw [hcnt] at hown hx hc1 ⊢
    have HQ : Hid (OwnPk w.heap.size (.slice x len c) ps w') := hid hown
    have HQB := HBW
    have HQL : Hid (ps.length = len) := hid hcnt
    clear hown hx hn1 hc1 hm1 HA HG HO0 HRW hB0 hl0 hcnt
    generalize ps = qs at HQ HQL
    go_wp2_with fail
    go_loopw [6] (fun i wr => i = .int .i64 0 ∧ wr = w') (fun i _ => 0)
    case atStart => exact ⟨rfl, rfl⟩
    case round =>
      obtain ⟨rfl, rfl⟩ := hrel
      cases hok : qs.all Pk.ok
      · have HOK := hid hok
        clear hok
        have HX1 := hid HQ.out.rowX
        have hk1 : len ≤ 1000 := by omega
        have hq1 := conv_nil
        by_cases h00 : 0 < len
        all_goals
          go_wp2_with (first | (go_at_call 12; (with_reducible refine (Put_no _ _ _ _ _ HX1.out hk1 HOK.out).mono ?_); rintro e w4 ⟨rfl, hb4⟩; have HB4 := hid hb4; clear hb4) | (go_at_call 13; (with_reducible refine (RPut_no _ _ _ _ _ (HX1.out.below HB4.out) hk1 HOK.out).mono ?_); rintro e w5 ⟨rfl, hb5⟩; have HB5 := hid hb5; clear hb5) | (go_at_call 8; (with_reducible refine (HT.out _).mono ?_); rintro e w6 ⟨rfl, hb6⟩; have HB6 := hid hb6; clear hb6))
          go_ret
          exact ⟨rfl, bthen (bthen (bthen HQB.out HB4.out) HB5.out) HB6.out⟩
      · have HOK := hid hok
        clear hok
        by_cases h00 : 0 < len
        all_goals
          have HX1 := hid HQ.out.rowX
          go_upto_region 9 with (go_at_call 12; (with_reducible refine (Put_yes _ _ _ _ _ HX1.out (by omega) HOK.out).mono ?_); rintro e w4 ⟨v4, rfl, ho4, hb4⟩; have HO4 := hid ho4; have HB4 := hid hb4; clear ho4 hb4)
          obtain ⟨x4, c4, rfl, hx4, hn4, hc4, hm4⟩ := HO4.out.shape (by_small HOK.out)
          rw [List.length_map, HQL.out] at hx4 ⊢
          have HX4 := hid hx4
          clear hx4 hn4 hc4 hm4
          go_upto_region 10 with (go_at_call 13; (with_reducible refine (RPut_yes _ _ _ _ _ (HX1.out.below HB4.out) (by omega) HOK.out).mono ?_); rintro e w5 ⟨v5, rfl, ho5, hb5⟩; have HO5 := hid ho5; have HB5 := hid hb5; clear ho5 hb5)
          obtain ⟨x5, c5, rfl, hx5, hn5, hc5, hm5⟩ := HO5.out.shape (by_small HOK.out)
          rw [List.length_map, HQL.out] at hx5 ⊢
          have HX5 := hid hx5
          clear hx5 hn5 hc5 hm5
          have hq1 := conv_own (HO4.out.below HB5.out)
          have hq2 := conv_own HO5.out
          rw [List.length_map, HQL.out] at hq1 hq2
          generalize strOf (qs.map Pk.by) = S at hq1 hq2
          have HX1L := hid (fun W (hb : Below w5.heap.size w5 W) => HX1.out.below (bthen (bthen HB4.out HB5.out) hb))
          have HX4L := hid (fun W (hb : Below w5.heap.size w5 W) => HX4.out.below (bthen HB5.out hb))
          have HRB := hid (read_all HOK.out)
          have hk1 : len ≤ 1000 := by omega
          have hk2 : len ≤ 100000 := by omega
          go_wp2_with (first | (go_at_call 8; (with_reducible refine (HT.out _).mono ?_); rintro e w6 ⟨rfl, hb6⟩; have HB6 := hid hb6; clear hb6) | (go_at_call 9; (with_reducible refine (Read_any _ _ _ _ _ (HX4L.out _ HB6.out) hk1).mono ?_); rintro e w7 ⟨v7, rfl, ho7, hb7⟩; rw [HRB.out] at ho7; obtain ⟨x7, c7, rfl, hx7, -, -, -⟩ := ho7.shape; rw [HQL.out] at hx7 ⊢; have HX7 := hid hx7; have HB7 := hid hb7; clear ho7 hx7 hb7) | (go_at_call 10; (with_reducible refine (Same_yes _ _ _ _ _ _ _ HX7.out (HX1L.out _ (bthen HB6.out HB7.out)) hk2).mono ?_); rintro e w8 ⟨rfl, hb8⟩; have HB8 := hid hb8; clear hb8))
          go_ret
          exact ⟨rfl, bthen (bthen (bthen (bthen (bthen HQB.out HB4.out) HB5.out) HB6.out) HB7.out) HB8.out⟩
  · go_enter Try.func4, Try.ntmps4
    go_wp2_with (go_at_call 8; (with_reducible refine (HT.out _).mono ?_); rintro e w5 ⟨rfl, hb5⟩; have HB5 := hid hb5; clear hb5)
    go_ret
    exact ⟨rfl, HB5.out⟩

theorem puts_law (a : Option Addr) (len cap : Nat) (raw : Bool) (ps : List Pk) (w : World) (hr : PkRow w a len ps) (hnc : a = none → len = 0 ∧ cap = 0) (hlm : len ≤ maxLen) :
    Calls Try.prog 4 #[.slice a len cap, .bool raw] w fun e w' => e = .returned (.bool true) ∧ Below w.heap.size w w' := by
  cases raw
  · exact puts_false a len cap ps w hr hnc hlm
  · exact puts_true a len cap ps w hr hnc hlm

end Go.Proofs.Ytbenbbgcdcafaaa
