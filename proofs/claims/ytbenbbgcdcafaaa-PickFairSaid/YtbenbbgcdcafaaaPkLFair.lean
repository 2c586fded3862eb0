/-
  PickFair, walked.
-/
import Derived.Test.YtbenbbgcdcafaaaPkRFair
import Derived.Test.YtbenbbgcdcafaaaPkTold
namespace Go.Proofs.Ytbenbbgcdcafaaa
open Go.RowKit
set_option linter.unusedVariables false

theorem u64_pos (n : Int) : 0 ≤ IntKind.u64.wrap n := by
  unfold IntKind.wrap
  simp [IntKind.bits, IntKind.signed]
  try omega
/-- The k picks from s on have each of n threads. -/
def Good (ts : List Int) (n : Nat) (k : Int) (s : Nat) : Prop := ∀ t : Nat, t < n → ∃ j : Nat, s ≤ j ∧ (j : Int) < s + k ∧ ts[j]? = some (t : Int)
/-- Whether all that begin ahead of i have. -/
def FairS (ts : List Int) (n : Nat) (k : Int) (i : Nat) (b : Bool) : Prop := b = true ↔ ∀ s, s < i → Good ts n k s
theorem FairS.step {ts : List Int} {n : Nat} {k : Int} {i : Nat} {b b' : Bool} (h : FairS ts n k i b) (h' : b' = true ↔ b = true ∧ Good ts n k i) : FairS ts n k (i + 1) b' := by
  unfold FairS at *
  rw [h', h]
  constructor
  · rintro ⟨h1, h2⟩ s hs
    rcases Nat.lt_or_ge s i with h3 | h3
    · exact h1 s h3
    · obtain rfl : s = i := by omega
      exact h2
  · intro h1
    exact ⟨fun s hs => h1 s (by omega), h1 i (by omega)⟩
theorem FairS.done {ts : List Int} {n : Nat} {k : Int} {i : Nat} {b : Bool} (h : FairS ts n k i b) (h1 : 1 ≤ n) (h4 : n ≤ 4) (hk : 1 ≤ k) (hi : (ts.length : Int) < i + k) (hi2 : i = 0 ∨ (i : Int) + k ≤ ts.length + 1) : b = fairB ts n k := by
  unfold FairS at h
  cases b
  · refine (fairB_no fun hf => ?_).symm
    have : (false : Bool) = true := h.2 fun s hs t ht => hf.2.2.2 s (by omega) t (by omega)
    cases this
  · refine (fairB_yes ⟨by omega, by omega, hk, fun s hs t ht => ?_⟩).symm
    exact h.1 rfl s (by omega) t (by omega)
/-- Who has been seen from i on, ahead of j. -/
structure HasAt (ts : List Int) (i j : Nat) (zs : List Bool) : Prop where
  len : zs.length = 4
  has : ∀ t, t < 4 → (zs.getD t false = true ↔ ∃ q, i ≤ q ∧ q < j ∧ ts[q]? = some (t : Int))
theorem HasAt.start (ts : List Int) (i : Nat) : HasAt ts i i [false, false, false, false] := by
  refine ⟨rfl, fun t ht => ?_⟩
  have : t = 0 ∨ t = 1 ∨ t = 2 ∨ t = 3 := by omega
  constructor
  · rcases this with rfl | rfl | rfl | rfl <;> intro h <;> cases h
  · rintro ⟨q, h1, h2, _⟩
    omega
theorem HasAt.step {ts : List Int} {i j : Nat} {zs : List Bool} (h : HasAt ts i j zs) {x : Nat} (hx : ts[j]? = some (x : Int)) (hij : i ≤ j) : HasAt ts i (j + 1) (zs.set x true) := by
  refine ⟨by simpa using h.len, fun t ht => ?_⟩
  have e : (zs.set x true).getD t false = if x = t then true else zs.getD t false := by
    simp only [List.getD_eq_getElem?_getD, List.getElem?_set]
    by_cases h' : x = t
    · subst h'
      simp [h.len, ht]
    · simp [h']
  rw [e]
  split
  · rename_i he
    subst he
    simp only [true_iff]
    exact ⟨j, hij, by omega, hx⟩
  · rename_i hne
    rw [h.has t ht]
    constructor
    · rintro ⟨q, h1, h2, h3⟩
      exact ⟨q, h1, by omega, h3⟩
    · rintro ⟨q, h1, h2, h3⟩
      refine ⟨q, h1, ?_, h3⟩
      rcases Nat.lt_or_ge q j with h4 | h4
      · exact h4
      · obtain rfl : q = j := by omega
        rw [hx] at h3
        simp only [Option.some.injEq] at h3
        omega
/-- Whether the first t of them have been seen, too. -/
def SeenS (zs : List Bool) (b0 : Bool) (t : Nat) (b : Bool) : Prop := b = true ↔ b0 = true ∧ ∀ q, q < t → zs.getD q false = true
theorem SeenS.step {zs : List Bool} {b0 b : Bool} {t : Nat} (h : SeenS zs b0 t b) : SeenS zs b0 (t + 1) (b && zs.getD t false) := by
  unfold SeenS at *
  rw [Bool.and_eq_true, h]
  constructor
  · rintro ⟨⟨h1, h2⟩, h3⟩
    refine ⟨h1, fun q hq => ?_⟩
    rcases Nat.lt_or_ge q t with h4 | h4
    · exact h2 q h4
    · obtain rfl : q = t := by omega
      exact h3
  · rintro ⟨h1, h2⟩
    exact ⟨⟨h1, fun q hq => h2 q (by omega)⟩, h2 t (by omega)⟩
theorem SeenS.good {ts : List Int} {n i : Nat} {k : Int} {zs : List Bool} {b0 b : Bool} {j : Nat} (h : SeenS zs b0 n b) (hz : HasAt ts i j zs) (hj : (j : Int) = i + k) (h4 : n ≤ 4) : b = true ↔ b0 = true ∧ Good ts n k i := by
  unfold SeenS at h
  rw [h]
  constructor
  · rintro ⟨h1, h2⟩
    refine ⟨h1, fun t ht => ?_⟩
    obtain ⟨q, a, b, c⟩ := (hz.has t (by omega)).1 (h2 t ht)
    exact ⟨q, a, by omega, c⟩
  · rintro ⟨h1, h2⟩
    refine ⟨h1, fun t ht => ?_⟩
    obtain ⟨q, a, b, c⟩ := h2 t ht
    exact (hz.has t (by omega)).2 ⟨q, a, by omega, c⟩

theorem wf_i64 {n : Int} (h : (Lit.int .i64 n).wf = true) : -9223372036854775808 ≤ n ∧ n ≤ 9223372036854775807 := by
  simpa [Lit.wf, IntKind.min, IntKind.max, IntKind.signed, IntKind.bits] using h
theorem read_t (b : Nat) : ∃ t : Nat, t < 4 ∧ (readF b).t = (t : Int) := ⟨b % 4, Nat.mod_lt _ (by decide), rfl⟩
theorem blk_bools {w : World} {b : Nat} {zs : List Bool} {t : TypeId} (h : w.heap[b]? = some (.cells (zs.map Value.bool).toArray t (0, 0))) {j : Nat} (hj : j < zs.length) : w.cell? ⟨b, j, none⟩ = some (.bool (zs.getD j false)) := by
  rw [cell_of_blk h]
  simp [hj]

set_option maxRecDepth 100000 in
set_option maxHeartbeats 8000000 in
theorem fair_law (a : Option Addr) (len cap : Nat) (bs : List Nat) (a1 a2 : Int) (a3 : Bool) (w : World) (hr : ByRow w a len bs) (hlm : len ≤ maxLen) (hkb0 : -9223372036854775808 ≤ a2) (hkt0 : a2 ≤ 9223372036854775807) :
    Calls Try.prog 5 #[.slice a len cap, .int .i64 a1, .int .i64 a2, .bool a3] w fun e w' => e = .returned (.bool true) ∧ Below w.heap.size w w' := by
  unfold maxLen at hlm
  have HT := hid told7
  have HR := hid hr
  clear hr
  by_cases hl : len ≤ 60
  · have p1 := u64_pos a1
    have p2 := u64_pos a2
    have hl6 : len ≤ 1000 := by omega
    cases a3
    all_goals go_enter Try.func5, Try.ntmps5
    all_goals go_upto_region 5 with fail
    · have hK1 : (-9223372036854775808 : Int) ≤ a2 := hkb0
      have hkb := hkb0
      have hkt := hkt0
      generalize a1 = N at p1 ⊢
      generalize a2 = K at p2 hkb hkt ⊢
      clear hkb0 hkt0 hK1
      clear p1 p2
      go_upto_region 6 with (go_at_call 11; (with_reducible refine (RRead_any _ _ _ _ _ HR.out hl6).mono ?_); rintro e w1 ⟨v1, rfl, ho1, hb1⟩; have HO1 := hid ho1; have HB1 := hid hb1; clear ho1 hb1)
      have hcnt := HR.out.cnt
      obtain ⟨x, c, rfl, hx1, -, -, -⟩ := HO1.out.shape
      rw [List.length_map, hcnt] at hx1 ⊢
      have HX := hid hx1
      have HLN : Hid ((whoOf (bs.map readF)).length = len) := hid (by unfold whoOf; rw [List.length_map, List.length_map, hcnt])
      have HBL := hid (bid w1)
      clear hx1 HO1
      have HCN := hid hcnt
      clear hcnt
      have hcase : (1 ≤ N ∧ N ≤ 4 ∧ 1 ≤ K) ∨ (K < 1 ∨ N < 1 ∨ 4 < N) := by omega
      rcases hcase with ⟨n1, n4, k1⟩ | hbad
      · obtain ⟨n, rfl⟩ : ∃ n' : Nat, N = (n' : Int) := ⟨N.toNat, by omega⟩
        have g1 : 1 ≤ n := by omega
        have g4 : n ≤ 4 := by omega
        go_wp2_with fail
        go_loopw [10, 11] (fun bv iv wr => ∃ (i : Nat) (b : Bool), i ≤ 61 ∧ bv = .bool b ∧ iv = .int .i64 i ∧ Hid (FairS (whoOf (bs.map readF)) n K i b) ∧ Hid (i = 0 ∨ (i : Int) + K ≤ len + 1) ∧ Below w1.heap.size w1 wr) (fun _ iv _ => 61 - (intOf iv).toNat)
        case atStart => exact ⟨0, true, by omega, rfl, rfl, hid (by unfold FairS; simp), hid (.inl rfl), Below.refl _ _⟩
        case round =>
          obtain ⟨i, b, hi61, rfl, rfl, HFS, HI0, hb⟩ := hrel
          clear HBL
          have HBL := hid hb
          clear hb
          have hik : (i : Int) + K ≤ 9223372036854775807 := by rcases HI0.out with h | h <;> omega
          by_cases hc : (i : Int) + K ≤ len
          · obtain ⟨kk, rfl⟩ : ∃ kk : Nat, K = (kk : Int) := ⟨K.toNat, by omega⟩
            have hi60 : i < 61 := by omega
            go_upto_region 11 with fail
            have HB0 : Hid ((wr.alloc (.cells #[.bool false, .bool false, .bool false, .bool false] 35)).heap[wr.heap.size]? = some (.cells (([false, false, false, false] : List Bool).map Value.bool).toArray 35 (0, 0))) := hid (heap_alloc_new _ _)
            have HBA := hid (bnew HBL.out (.cells #[.bool false, .bool false, .bool false, .bool false] 35))
            have hwr := HBL.out.size
            generalize hg : wr.heap.size = g at HB0 hwr ⊢
            generalize wr.alloc (.cells #[.bool false, .bool false, .bool false, .bool false] 35) = wA at HB0 HBA ⊢
            clear hg
            go_wp2_with fail
            go_loopw [13] (fun jv wr => ∃ (j : Nat) (zs : List Bool), i ≤ j ∧ (j : Int) ≤ i + kk ∧ jv = .int .i64 j ∧ Hid (HasAt (whoOf (bs.map readF)) i j zs) ∧ Hid (wr.heap[g]? = some (.cells (zs.map Value.bool).toArray 35 (0, 0))) ∧ Below w1.heap.size w1 wr) (fun jv _ => i + kk - (intOf jv).toNat)
            case atStart => exact ⟨i, _, Nat.le_refl _, by omega, rfl, hid (HasAt.start _ _), HB0, HBA.out⟩
            case round =>
              obtain ⟨j, zs, hij, hjk, rfl, HH, HK, hb⟩ := hrel
              clear HBA HB0
              have HBB := hid hb
              clear hb
              by_cases hlt : (j : Int) < i + kk
              · obtain ⟨bx, off, rfl, hbl, hcell⟩ := HX.out.at (by omega)
                have hjl : j < len := by omega
                have hcn := HCN.out
                obtain ⟨p, hp⟩ : ∃ p, (bs.map readF)[j]? = some p := ⟨_, List.getElem?_eq_getElem (by rw [List.length_map, hcn]; exact hjl)⟩
                have HW : Hid ((whoOf (bs.map readF))[j]? = some p.t) := hid (by unfold whoOf; rw [List.getElem?_map, hp]; rfl)
                obtain ⟨t, ht4, hte⟩ : ∃ t : Nat, t < 4 ∧ p.t = (t : Int) := by
                  obtain ⟨b', hb', he⟩ : ∃ b', bs[j]? = some b' ∧ readF b' = p := by
                    rw [List.getElem?_map, Option.map_eq_some_iff] at hp
                    exact hp
                  subst he
                  exact read_t b'
                obtain ⟨x0, x1, x2⟩ := (hcell j _ hp).keep (HBB.out.block bx hbl)
                rw [hte] at x0 HW
                clear hcell hp hcn hte x1 x2
                have cz := blk_bools HK.out (j := t) (by rw [HH.out.len]; exact ht4)
                have fz := fun q => frozen_of_blk HK.out q
                go_wp2
                go_roundw
                case rel => exact ⟨j + 1, zs.set t true, by omega, by omega, by go_num, hid (HH.out.step HW.out hij), hid (by rw [blk_setCell HK.out]; simp [List.map_set]), HBB.out.setCell hwr _⟩
                case measure => simp [intOf] <;> omega
              · have hje : (j : Int) = i + kk := by omega
                have HJE := hid hje
                clear hje
                go_wp2_with fail
                go_loop [10, 14] (fun bv tv => ∃ (t : Nat) (b' : Bool), t ≤ n ∧ tv = .int .i64 t ∧ bv = .bool b' ∧ Hid (SeenS zs b t b')) (fun _ tv => n - (intOf tv).toNat)
                case atStart => exact ⟨0, b, Nat.zero_le _, rfl, rfl, hid (by unfold SeenS; simp)⟩
                case round =>
                  obtain ⟨t, b', htn, rfl, rfl, HSE⟩ := hrel
                  by_cases hlt2 : t < n
                  · have cz := blk_bools HK.out (j := t) (by rw [HH.out.len]; omega)
                    have HS2 := hid HSE.out.step
                    generalize zs.getD t false = y at cz HS2
                    cases b'
                    · go_wp2
                      go_round
                      case rel => exact ⟨t + 1, false, by omega, by go_num, by trivial, HS2⟩
                      case measure => simp [intOf] <;> omega
                    · go_wp2
                      go_round
                      case rel => exact ⟨t + 1, y, by omega, by go_num, by trivial, HS2⟩
                      case measure => simp [intOf] <;> omega
                  · obtain rfl : t = n := by omega
                    have HFN := hid (HFS.out.step (HSE.out.good HH.out HJE.out g4))
                    go_wp2
                    go_roundw
                    case rel => exact ⟨i + 1, b', by omega, rfl, by go_num, HFN, hid (.inr (by omega)), HBB.out⟩
                    case measure => simp [intOf] <;> omega
          · have HBV : Hid (fairB (whoOf (bs.map readF)) n K = b) := hid (HFS.out.done g1 g4 k1 (by rw [HLN.out]; omega) (by rw [HLN.out]; exact HI0.out)).symm
            cases b
            all_goals
              have HFA := hid (fun W (hb : Below w1.heap.size w1 W) => (Fair_any x len c (bs.map readF) n K W (HX.out.below hb) hl6 hkb hkt))
              have HRA := hid (fun W (hb : Below w1.heap.size w1 W) => (RFair_any x len c (bs.map readF) n K W (HX.out.below hb) hl6 hkb hkt))
              rw [HBV.out] at HFA HRA
              go_wp2_with (first | (go_at_call 8; (with_reducible refine (HT.out _).mono ?_); rintro e w4 ⟨rfl, hb4⟩; have HB4 := hid (bthen HBL.out hb4); clear hb4) | (go_at_call 14; (with_reducible refine (HFA.out _ HB4.out).mono ?_); rintro e w5 ⟨rfl, hb5⟩; have HB5 := hid (bthen HB4.out hb5); clear hb5) | (go_at_call 15; (with_reducible refine (HRA.out _ HB5.out).mono ?_); rintro e w6 ⟨rfl, hb6⟩; have HB6 := hid (bthen HB5.out hb6); clear hb6))
              all_goals (go_ret; exact ⟨rfl, bthen HB1.out HB6.out⟩)
      · have HBV : Hid (fairB (whoOf (bs.map readF)) N K = false) := hid (fairB_no fun h => by have h1 := h.1; have h2 := h.2.1; have h3 := h.2.2.1; omega)
        by_cases hkl : K ≤ len
        all_goals
          rcases hbad with hb1 | hb1 | hb1
          all_goals
            try have hd4 : decide (N ≤ 4) = false := decide_eq_false (by omega)
            go_wp2_with fail
            go_loopw [10, 11] (fun bv iv wr => bv = .bool true ∧ iv = .int .i64 0 ∧ wr = w1) (fun _ _ _ => 0)
            case atStart => exact ⟨rfl, rfl, rfl⟩
            case round =>
              obtain ⟨rfl, rfl, hw⟩ := hrel
              obtain rfl : w1 = _ := hw.symm
              have HFA := hid (fun W (hb : Below w1.heap.size w1 W) => (Fair_any x len c (bs.map readF) N K W (HX.out.below hb) hl6 hkb hkt))
              have HRA := hid (fun W (hb : Below w1.heap.size w1 W) => (RFair_any x len c (bs.map readF) N K W (HX.out.below hb) hl6 hkb hkt))
              rw [HBV.out] at HFA HRA
              go_wp2_with (first | (go_at_call 8; (with_reducible refine (HT.out _).mono ?_); rintro e w4 ⟨rfl, hb4⟩; have HB4 := hid (bthen HBL.out hb4); clear hb4) | (go_at_call 14; (with_reducible refine (HFA.out _ HB4.out).mono ?_); rintro e w5 ⟨rfl, hb5⟩; have HB5 := hid (bthen HB4.out hb5); clear hb5) | (go_at_call 15; (with_reducible refine (HRA.out _ HB5.out).mono ?_); rintro e w6 ⟨rfl, hb6⟩; have HB6 := hid (bthen HB5.out hb6); clear hb6))
              all_goals (go_ret; exact ⟨rfl, bthen HB1.out HB6.out⟩)
    · have hkb : (-9223372036854775808 : Int) ≤ 1 + IntKind.u64.wrap a2 % 20 := by omega
      have hkt : (1 + IntKind.u64.wrap a2 % 20 : Int) ≤ 9223372036854775807 := by omega
      generalize 1 + IntKind.u64.wrap a1 % 4 = N
      generalize 1 + IntKind.u64.wrap a2 % 20 = K at hkb hkt ⊢
      clear p1 p2
      go_upto_region 6 with (go_at_call 11; (with_reducible refine (RRead_any _ _ _ _ _ HR.out hl6).mono ?_); rintro e w1 ⟨v1, rfl, ho1, hb1⟩; have HO1 := hid ho1; have HB1 := hid hb1; clear ho1 hb1)
      have hcnt := HR.out.cnt
      obtain ⟨x, c, rfl, hx1, -, -, -⟩ := HO1.out.shape
      rw [List.length_map, hcnt] at hx1 ⊢
      have HX := hid hx1
      have HLN : Hid ((whoOf (bs.map readF)).length = len) := hid (by unfold whoOf; rw [List.length_map, List.length_map, hcnt])
      have HBL := hid (bid w1)
      clear hx1 HO1
      have HCN := hid hcnt
      clear hcnt
      have hcase : (1 ≤ N ∧ N ≤ 4 ∧ 1 ≤ K) ∨ (K < 1 ∨ N < 1 ∨ 4 < N) := by omega
      rcases hcase with ⟨n1, n4, k1⟩ | hbad
      · obtain ⟨n, rfl⟩ : ∃ n' : Nat, N = (n' : Int) := ⟨N.toNat, by omega⟩
        have g1 : 1 ≤ n := by omega
        have g4 : n ≤ 4 := by omega
        go_wp2_with fail
        go_loopw [10, 11] (fun bv iv wr => ∃ (i : Nat) (b : Bool), i ≤ 61 ∧ bv = .bool b ∧ iv = .int .i64 i ∧ Hid (FairS (whoOf (bs.map readF)) n K i b) ∧ Hid (i = 0 ∨ (i : Int) + K ≤ len + 1) ∧ Below w1.heap.size w1 wr) (fun _ iv _ => 61 - (intOf iv).toNat)
        case atStart => exact ⟨0, true, by omega, rfl, rfl, hid (by unfold FairS; simp), hid (.inl rfl), Below.refl _ _⟩
        case round =>
          obtain ⟨i, b, hi61, rfl, rfl, HFS, HI0, hb⟩ := hrel
          clear HBL
          have HBL := hid hb
          clear hb
          have hik : (i : Int) + K ≤ 9223372036854775807 := by rcases HI0.out with h | h <;> omega
          by_cases hc : (i : Int) + K ≤ len
          · obtain ⟨kk, rfl⟩ : ∃ kk : Nat, K = (kk : Int) := ⟨K.toNat, by omega⟩
            have hi60 : i < 61 := by omega
            go_upto_region 11 with fail
            have HB0 : Hid ((wr.alloc (.cells #[.bool false, .bool false, .bool false, .bool false] 35)).heap[wr.heap.size]? = some (.cells (([false, false, false, false] : List Bool).map Value.bool).toArray 35 (0, 0))) := hid (heap_alloc_new _ _)
            have HBA := hid (bnew HBL.out (.cells #[.bool false, .bool false, .bool false, .bool false] 35))
            have hwr := HBL.out.size
            generalize hg : wr.heap.size = g at HB0 hwr ⊢
            generalize wr.alloc (.cells #[.bool false, .bool false, .bool false, .bool false] 35) = wA at HB0 HBA ⊢
            clear hg
            go_wp2_with fail
            go_loopw [13] (fun jv wr => ∃ (j : Nat) (zs : List Bool), i ≤ j ∧ (j : Int) ≤ i + kk ∧ jv = .int .i64 j ∧ Hid (HasAt (whoOf (bs.map readF)) i j zs) ∧ Hid (wr.heap[g]? = some (.cells (zs.map Value.bool).toArray 35 (0, 0))) ∧ Below w1.heap.size w1 wr) (fun jv _ => i + kk - (intOf jv).toNat)
            case atStart => exact ⟨i, _, Nat.le_refl _, by omega, rfl, hid (HasAt.start _ _), HB0, HBA.out⟩
            case round =>
              obtain ⟨j, zs, hij, hjk, rfl, HH, HK, hb⟩ := hrel
              clear HBA HB0
              have HBB := hid hb
              clear hb
              by_cases hlt : (j : Int) < i + kk
              · obtain ⟨bx, off, rfl, hbl, hcell⟩ := HX.out.at (by omega)
                have hjl : j < len := by omega
                have hcn := HCN.out
                obtain ⟨p, hp⟩ : ∃ p, (bs.map readF)[j]? = some p := ⟨_, List.getElem?_eq_getElem (by rw [List.length_map, hcn]; exact hjl)⟩
                have HW : Hid ((whoOf (bs.map readF))[j]? = some p.t) := hid (by unfold whoOf; rw [List.getElem?_map, hp]; rfl)
                obtain ⟨t, ht4, hte⟩ : ∃ t : Nat, t < 4 ∧ p.t = (t : Int) := by
                  obtain ⟨b', hb', he⟩ : ∃ b', bs[j]? = some b' ∧ readF b' = p := by
                    rw [List.getElem?_map, Option.map_eq_some_iff] at hp
                    exact hp
                  subst he
                  exact read_t b'
                obtain ⟨x0, x1, x2⟩ := (hcell j _ hp).keep (HBB.out.block bx hbl)
                rw [hte] at x0 HW
                clear hcell hp hcn hte x1 x2
                have cz := blk_bools HK.out (j := t) (by rw [HH.out.len]; exact ht4)
                have fz := fun q => frozen_of_blk HK.out q
                go_wp2
                go_roundw
                case rel => exact ⟨j + 1, zs.set t true, by omega, by omega, by go_num, hid (HH.out.step HW.out hij), hid (by rw [blk_setCell HK.out]; simp [List.map_set]), HBB.out.setCell hwr _⟩
                case measure => simp [intOf] <;> omega
              · have hje : (j : Int) = i + kk := by omega
                have HJE := hid hje
                clear hje
                go_wp2_with fail
                go_loop [10, 14] (fun bv tv => ∃ (t : Nat) (b' : Bool), t ≤ n ∧ tv = .int .i64 t ∧ bv = .bool b' ∧ Hid (SeenS zs b t b')) (fun _ tv => n - (intOf tv).toNat)
                case atStart => exact ⟨0, b, Nat.zero_le _, rfl, rfl, hid (by unfold SeenS; simp)⟩
                case round =>
                  obtain ⟨t, b', htn, rfl, rfl, HSE⟩ := hrel
                  by_cases hlt2 : t < n
                  · have cz := blk_bools HK.out (j := t) (by rw [HH.out.len]; omega)
                    have HS2 := hid HSE.out.step
                    generalize zs.getD t false = y at cz HS2
                    cases b'
                    · go_wp2
                      go_round
                      case rel => exact ⟨t + 1, false, by omega, by go_num, by trivial, HS2⟩
                      case measure => simp [intOf] <;> omega
                    · go_wp2
                      go_round
                      case rel => exact ⟨t + 1, y, by omega, by go_num, by trivial, HS2⟩
                      case measure => simp [intOf] <;> omega
                  · obtain rfl : t = n := by omega
                    have HFN := hid (HFS.out.step (HSE.out.good HH.out HJE.out g4))
                    go_wp2
                    go_roundw
                    case rel => exact ⟨i + 1, b', by omega, rfl, by go_num, HFN, hid (.inr (by omega)), HBB.out⟩
                    case measure => simp [intOf] <;> omega
          · have HBV : Hid (fairB (whoOf (bs.map readF)) n K = b) := hid (HFS.out.done g1 g4 k1 (by rw [HLN.out]; omega) (by rw [HLN.out]; exact HI0.out)).symm
            cases b
            all_goals
              have HFA := hid (fun W (hb : Below w1.heap.size w1 W) => (Fair_any x len c (bs.map readF) n K W (HX.out.below hb) hl6 hkb hkt))
              have HRA := hid (fun W (hb : Below w1.heap.size w1 W) => (RFair_any x len c (bs.map readF) n K W (HX.out.below hb) hl6 hkb hkt))
              rw [HBV.out] at HFA HRA
              go_wp2_with (first | (go_at_call 8; (with_reducible refine (HT.out _).mono ?_); rintro e w4 ⟨rfl, hb4⟩; have HB4 := hid (bthen HBL.out hb4); clear hb4) | (go_at_call 14; (with_reducible refine (HFA.out _ HB4.out).mono ?_); rintro e w5 ⟨rfl, hb5⟩; have HB5 := hid (bthen HB4.out hb5); clear hb5) | (go_at_call 15; (with_reducible refine (HRA.out _ HB5.out).mono ?_); rintro e w6 ⟨rfl, hb6⟩; have HB6 := hid (bthen HB5.out hb6); clear hb6))
              all_goals (go_ret; exact ⟨rfl, bthen HB1.out HB6.out⟩)
      · have HBV : Hid (fairB (whoOf (bs.map readF)) N K = false) := hid (fairB_no fun h => by have h1 := h.1; have h2 := h.2.1; have h3 := h.2.2.1; omega)
        by_cases hkl : K ≤ len
        all_goals
          rcases hbad with hb1 | hb1 | hb1
          all_goals
            try have hd4 : decide (N ≤ 4) = false := decide_eq_false (by omega)
            go_wp2_with fail
            go_loopw [10, 11] (fun bv iv wr => bv = .bool true ∧ iv = .int .i64 0 ∧ wr = w1) (fun _ _ _ => 0)
            case atStart => exact ⟨rfl, rfl, rfl⟩
            case round =>
              obtain ⟨rfl, rfl, hw⟩ := hrel
              obtain rfl : w1 = _ := hw.symm
              have HFA := hid (fun W (hb : Below w1.heap.size w1 W) => (Fair_any x len c (bs.map readF) N K W (HX.out.below hb) hl6 hkb hkt))
              have HRA := hid (fun W (hb : Below w1.heap.size w1 W) => (RFair_any x len c (bs.map readF) N K W (HX.out.below hb) hl6 hkb hkt))
              rw [HBV.out] at HFA HRA
              go_wp2_with (first | (go_at_call 8; (with_reducible refine (HT.out _).mono ?_); rintro e w4 ⟨rfl, hb4⟩; have HB4 := hid (bthen HBL.out hb4); clear hb4) | (go_at_call 14; (with_reducible refine (HFA.out _ HB4.out).mono ?_); rintro e w5 ⟨rfl, hb5⟩; have HB5 := hid (bthen HB4.out hb5); clear hb5) | (go_at_call 15; (with_reducible refine (HRA.out _ HB5.out).mono ?_); rintro e w6 ⟨rfl, hb6⟩; have HB6 := hid (bthen HB5.out hb6); clear hb6))
              all_goals (go_ret; exact ⟨rfl, bthen HB1.out HB6.out⟩)
  · go_enter Try.func5, Try.ntmps5
    go_wp2_with (go_at_call 8; (with_reducible refine (HT.out _).mono ?_); rintro e w5 ⟨rfl, hb5⟩; have HB5 := hid hb5; clear hb5)
    go_ret
    exact ⟨rfl, HB5.out⟩

end Go.Proofs.Ytbenbbgcdcafaaa
