/-
  slices.Min and pick.Fair.
-/
import Derived.Test.YtbenbbgcdcafaaaPkPut
namespace Go.Proofs.Ytbenbbgcdcafaaa
open Go.RowKit
set_option linter.unusedVariables false

/-- Who has which pick. -/
def whoOf (ps : List Pk) : List Int := ps.map Pk.t
/-- Up to m, each k picks one behind the other have each of n threads. -/
def FairTo (ts : List Int) (n k : Int) (m : Nat) : Prop := ∀ i : Nat, (i : Int) + k ≤ m → ∀ t : Nat, (t : Int) < n → ∃ j : Nat, i ≤ j ∧ (j : Int) < i + k ∧ ts[j]? = some (t : Int)
def FairP (ts : List Int) (n k : Int) : Prop := 1 ≤ n ∧ n ≤ 4 ∧ 1 ≤ k ∧ FairTo ts n k ts.length
noncomputable def fairB (ts : List Int) (n k : Int) : Bool := open Classical in decide (FairP ts n k)
theorem fairB_yes {ts : List Int} {n k : Int} (h : FairP ts n k) : fairB ts n k = true := by unfold fairB; simpa using h
theorem fairB_no {ts : List Int} {n k : Int} (h : ¬ FairP ts n k) : fairB ts n k = false := by unfold fairB; simpa using h

/-- Of each thread the place behind its last pick among the first m. -/
structure Last (ts : List Int) (n : Int) (m : Nat) (zs : List Int) : Prop where
  len : zs.length = 4
  low : ∀ t : Nat, (t : Int) < n → 0 ≤ zs.getD t 0 ∧ zs.getD t 0 ≤ m
  none : ∀ t : Nat, (t : Int) < n → ∀ j : Nat, j < m → zs.getD t 0 ≤ j → ts[j]? ≠ some (t : Int)
  last : ∀ t : Nat, (t : Int) < n → 0 < zs.getD t 0 → ∃ j : Nat, zs.getD t 0 = j + 1 ∧ ts[j]? = some (t : Int)
theorem Last.start (ts : List Int) (n : Int) (hn : n ≤ 4) : Last ts n 0 [0, 0, 0, 0] := by
  have h : ∀ t : Nat, (t : Int) < n → ([0, 0, 0, 0] : List Int).getD t 0 = 0 := by
    intro t ht
    have : t = 0 ∨ t = 1 ∨ t = 2 ∨ t = 3 := by omega
    rcases this with rfl | rfl | rfl | rfl <;> rfl
  refine ⟨rfl, fun t ht => by rw [h t ht]; omega, fun t ht j hj => by omega, fun t ht h0 => ?_⟩
  rw [h t ht] at h0
  omega
theorem Last.other {ts : List Int} {n : Int} {m : Nat} {zs : List Int} (h : Last ts n m zs) {x : Int} (hx : ts[m]? = some x) (ho : x < 0 ∨ n ≤ x) : Last ts n (m + 1) zs := by
  refine ⟨h.len, fun t ht => by have := h.low t ht; omega, fun t ht j hj hz e => ?_, h.last⟩
  rcases Nat.lt_or_ge j m with h' | h'
  · exact h.none t ht j h' hz e
  · obtain rfl : j = m := by omega
    rw [hx] at e
    cases e
    omega
theorem getD_set (zs : List Int) (i j : Nat) (v : Int) (hi : i < zs.length) : (zs.set i v).getD j 0 = if i = j then v else zs.getD j 0 := by
  simp only [List.getD_eq_getElem?_getD, List.getElem?_set]
  by_cases h : i = j
  · subst h; simp [hi]
  · simp [h]
theorem Last.this {ts : List Int} {n : Int} {m : Nat} {zs : List Int} (h : Last ts n m zs) {x : Nat} (hx : ts[m]? = some (x : Int)) (h4 : n ≤ 4) (hn : (x : Int) < n) : Last ts n (m + 1) (zs.set x ((m : Int) + 1)) := by
  have hl := h.len
  have g := getD_set zs x
  refine ⟨by simpa using hl, fun t ht => ?_, fun t ht j hj hz e => ?_, fun t ht h0 => ?_⟩
  · rw [g t _ (by omega)]
    have := h.low t ht
    split <;> omega
  · rw [g t _ (by omega)] at hz
    split at hz
    · omega
    · rename_i hne
      rcases Nat.lt_or_ge j m with h' | h'
      · exact h.none t ht j h' hz e
      · obtain rfl : j = m := by omega
        rw [hx] at e
        cases e
        exact hne rfl
  · rw [g t _ (by omega)] at h0 ⊢
    split
    · rename_i he
      subst he
      exact ⟨m, by omega, hx⟩
    · rename_i hne
      rw [if_neg hne] at h0
      exact h.last t ht h0
/-- The least of the first n. -/
structure IsMin (zs : List Int) (n : Nat) (v : Int) : Prop where
  one : ∃ j, j < n ∧ zs.getD j 0 = v
  all : ∀ j, j < n → v ≤ zs.getD j 0
theorem Last.bad {ts : List Int} {n k : Int} {m : Nat} {zs : List Int} (h : Last ts n (m + 1) zs) (hm : m < ts.length) (hk : 1 ≤ k) (h0 : 0 ≤ (m : Int) + 1 - k) {v : Int} {n' : Nat} (hn : (n' : Int) = n) (hv : IsMin zs n' v) (hle : v ≤ (m : Int) + 1 - k) : ¬ FairP ts n k := by
  rintro ⟨_, _, _, hf⟩
  obtain ⟨t, ht, e⟩ := hv.one
  obtain ⟨j, h1, h2, h3⟩ := hf ((m : Int) + 1 - k).toNat (by omega) t (by omega)
  exact h.none t (by omega) j (by omega) (by omega) h3
theorem Last.good {ts : List Int} {n k : Int} {m : Nat} {zs : List Int} (h : Last ts n (m + 1) zs) (hf : FairTo ts n k m) (hk : 1 ≤ k) {v : Int} {n' : Nat} (hn : (n' : Int) = n) (hv : IsMin zs n' v) (hle : (m : Int) + 1 - k < v) : FairTo ts n k (m + 1) := by
  intro i hi t ht
  rcases Int.lt_or_le ((i : Int) + k) (m + 1) with h' | h'
  · exact hf i (by omega) t ht
  · have ha := hv.all t (by omega)
    have hlo := h.low t ht
    obtain ⟨j, e, hj⟩ := h.last t ht (by omega)
    exact ⟨j, by omega, by omega, hj⟩
theorem FairTo.few {ts : List Int} {n k : Int} {m : Nat} (hf : FairTo ts n k m) (h : (m : Int) + 1 - k < 0) : FairTo ts n k (m + 1) := fun i hi => by omega
theorem FairTo.start (ts : List Int) (n k : Int) (hk : 1 ≤ k) : FairTo ts n k 0 := fun i hi => by omega

def MinRet (zs : List Int) (n : Nat) (w : World) (e : Ending) (w' : World) : Prop := ∃ v, e = .returned (.int .i64 v) ∧ IsMin zs n v ∧ w = w'

set_option maxHeartbeats 2000000 in
theorem Min_any (zs : List Int) (g n cap : Nat) (w : World) (hn : 1 ≤ n) (hn4 : n ≤ 4) (hc : ∀ j, j < n → w.cell? ⟨g, j, none⟩ = some (.int .i64 (zs.getD j 0))) :
    Calls Try.prog 20 #[.slice (some ⟨g, 0, none⟩) n cap] w (MinRet zs n w) := by
  have HC := hid hc
  have c0 := hc 0 (by omega)
  generalize hz : zs.getD 0 0 = z at c0
  have HZ := hid hz
  clear hc hz
  go_enter Try.func20, Try.ntmps20
  go_wp2
  go_loop [3, 4] (fun v i => ∃ (k : Nat) (x : Int), k ≤ n ∧ 1 ≤ k ∧ i = .int .i64 k ∧ v = .int .i64 x ∧ IsMin zs k x) (fun _ i => n - (intOf i).toNat)
  case atStart => exact ⟨1, z, hn, Nat.le_refl _, rfl, rfl, ⟨0, by omega, HZ.out⟩, fun j hj => by
    obtain rfl : j = 0 := by omega
    rw [HZ.out]; exact Int.le_refl _⟩
  case round =>
    obtain ⟨k, x, hk, hk1, rfl, rfl, hx⟩ := hrel
    have HX := hid hx
    clear hx c0
    by_cases hlt : k < n
    · have ck := HC.out k hlt
      generalize hy : zs.getD k 0 = y at ck
      have HY := hid hy
      clear hy
      by_cases hxy : x ≤ y
      · go_wp2
        go_round
        case rel =>
          refine ⟨k + 1, x, by omega, by omega, by go_num, by trivial, ?_, fun j hj => ?_⟩
          · obtain ⟨j, h1, h2⟩ := HX.out.one
            exact ⟨j, by omega, h2⟩
          · rcases Nat.lt_or_ge j k with h | h
            · exact HX.out.all j h
            · obtain rfl : j = k := by omega
              rw [HY.out]; exact hxy
        case measure => simp [intOf]; omega
      · go_wp2
        go_round
        case rel =>
          refine ⟨k + 1, y, by omega, by omega, by go_num, by rw [if_pos (by omega)], ⟨k, by omega, HY.out⟩, fun j hj => ?_⟩
          rcases Nat.lt_or_ge j k with h | h
          · have := HX.out.all j h
            omega
          · obtain rfl : j = k := by omega
            rw [HY.out]; exact Int.le_refl _
        case measure => simp [intOf]; omega
    · obtain rfl : k = n := by omega
      go_wp2
      go_ret
      exact ⟨x, rfl, HX.out, rfl⟩

/-- The state of the loop: m picks are seen. -/
structure FairAt (w : World) (ts : List Int) (n k : Int) (m : Nat) (wr : World) : Prop where
  zs : ∃ zs : List Int, Last ts n m zs ∧ wr.heap[w.heap.size]? = some (.cells (zs.map (Value.int .i64)).toArray 44 (0, 0))
  fair : FairTo ts n k m
  below : Below w.heap.size w wr

/-- Ahead of the question. -/
structure FairMid (w : World) (ts : List Int) (n k : Int) (m : Nat) (wr : World) : Prop where
  zs : ∃ zs : List Int, Last ts n (m + 1) zs ∧ wr.heap[w.heap.size]? = some (.cells (zs.map (Value.int .i64)).toArray 44 (0, 0))
  fair : FairTo ts n k m
  below : Below w.heap.size w wr
/-- The world under one name, of which a few things are known. -/
theorem wp_rename {P : Program} {c : Code} {Q : Exit → Act → World → Prop} {a : Act} {w : World} (R : World → Prop) (hR : R w) (h : ∀ w', R w' → c.wp P Q a w') : c.wp P Q a w := h w hR
theorem blk_cells {w : World} {b : Nat} {zs : List Int} {t : TypeId} (h : w.heap[b]? = some (.cells (zs.map (Value.int .i64)).toArray t (0, 0))) {j : Nat} (hj : j < zs.length) : w.cell? ⟨b, j, none⟩ = some (.int .i64 (zs.getD j 0)) := by
  rw [cell_of_blk h]
  simp [hj]
theorem FairAt.keep {w wr w' : World} {ts : List Int} {n k : Int} {m : Nat} (h : FairAt w ts n k m wr) (hb : Below wr.heap.size wr w') : FairAt w ts n k m w' := by
  obtain ⟨⟨zs, h1, h2⟩, h3, h4⟩ := h
  exact ⟨⟨zs, h1, (hb.block _ (lt_of_block h2)).trans h2⟩, h3, bthen h4 hb⟩

set_option maxHeartbeats 4000000 in
theorem Fair_any (a : Option Addr) (len cap : Nat) (ps : List Pk) (n k : Int) (w : World) (hr : PkRow w a len ps) (hl : len ≤ 1000) (hkb : -9223372036854775808 ≤ k) (hkt : k ≤ 9223372036854775807) :
    Calls Try.prog 14 #[.slice a len cap, .int .i64 n, .int .i64 k] w fun e w' => e = .returned (.bool (fairB (whoOf ps) n k)) ∧ Below w.heap.size w w' := by
  have HR := hid hr
  clear hr
  cases hn : inB n 1 4
  · have HN : Hid (fairB (whoOf ps) n k = false) := hid (fairB_no fun h => by rw [inB_yes h.1 h.2.1] at hn; cases hn)
    go_enter Try.func14, Try.ntmps14
    go_wp2_with (go_at_call 19; (with_reducible refine (within_any _ _ _ _).mono ?_); rintro e w' ⟨rfl, rfl⟩)
    go_ret
    exact ⟨by rw [HN.out]; rfl, Below.refl _ _⟩
  · obtain ⟨n1, n4⟩ := inB_iff.1 hn
    obtain ⟨n, rfl⟩ : ∃ n' : Nat, n = (n' : Int) := ⟨n.toNat, by omega⟩
    by_cases hk1 : k < 1
    · have HN : Hid (fairB (whoOf ps) n k = false) := hid (fairB_no fun h => by have := h.2.2.1; omega)
      go_enter Try.func14, Try.ntmps14
      go_wp2_with (go_at_call 19; (with_reducible refine (within_any _ _ _ _).mono ?_); rintro e w' ⟨rfl, rfl⟩)
      go_ret
      exact ⟨by rw [HN.out]; rfl, Below.refl _ _⟩
    · have hk0 : 1 ≤ k := by omega
      have HCN := hid HR.out.cnt
      go_enter Try.func14, Try.ntmps14
      go_wp2_with (go_at_call 19; (with_reducible refine (within_any _ _ _ _).mono ?_); rintro e w' ⟨rfl, rfl⟩)
      go_loopw [20] (fun i wr => ∃ m : Nat, m ≤ len ∧ i = .int .i64 m ∧ FairAt w (whoOf ps) n k m wr) (fun i _ => len - (intOf i).toNat)
      case atStart => exact ⟨0, Nat.zero_le _, rfl, ⟨_, Last.start _ _ n4, heap_alloc_new _ _⟩, FairTo.start _ _ _ hk0, bnew (bid w) _⟩
      case round =>
        obtain ⟨m, hm, rfl, hs⟩ := hrel
        have HS := hid hs
        clear hs
        by_cases hlt : m < len
        · obtain ⟨b, off, rfl, hbl, hcell⟩ := HR.out.at (by omega)
          obtain ⟨p, hp⟩ : ∃ p, ps[m]? = some p := ⟨_, List.getElem?_eq_getElem (by have := HCN.out; omega)⟩
          have HW : Hid ((whoOf ps)[m]? = some p.t) := hid (by unfold whoOf; rw [List.getElem?_map, hp]; rfl)
          obtain ⟨x0, x1, x2⟩ := (hcell m _ hp).keep (HS.out.below.block b hbl)
          clear hcell hp
          obtain ⟨t, ab, d⟩ := p
          dsimp only at x0 x1 x2 HW
          have HLT := hid (show m < (whoOf ps).length by unfold whoOf; rw [List.length_map, HCN.out]; exact hlt)
          obtain ⟨zs, hL, hblk⟩ := HS.out.zs
          have HL := hid hL
          have HBK := hid hblk
          have fz := fun j => frozen_of_blk hblk j
          have hgl := lt_of_block hblk
          clear hL hblk
          cases ht : inB t 0 ((n : Int) - 1)
          · go_upto_region 9 with (go_at_call 19; (with_reducible refine (within_any _ _ _ _).mono ?_); rintro e w' ⟨rfl, rfl⟩)
            refine wp_rename (FairMid w (whoOf ps) n k m) ?_ ?_
            · exact ⟨⟨_, HL.out.other HW.out (by
                rcases Int.lt_or_le t 0 with h | h
                · exact .inl h
                · rcases Int.lt_or_le t n with h' | h'
                  · rw [inB_yes h (by omega)] at ht; cases ht
                  · exact .inr h'), (Below.heap_alloc _ _ _ hgl).trans HBK.out⟩, HS.out.fair, bnew HS.out.below _⟩
            intro w2 h2
            obtain ⟨⟨zs2, hL2, hblk2⟩, hf2, hb2⟩ := h2
            have HL2 := hid hL2
            have HBK2 := hid hblk2
            have HF2 := hid hf2
            have HB2 := hid hb2
            have hz4 := hL2.len
            have fz2 := fun j => frozen_of_blk hblk2 j
            have HMN := hid (Min_any zs2 w.heap.size n 4 w2 (by omega) (by omega) (fun j hj => blk_cells HBK2.out (by omega)))
            clear hL2 hblk2 hf2 hb2
            by_cases h0 : 0 ≤ (m : Int) + 1 - k
            · go_wp2_with (go_at_call 20; (with_reducible refine HMN.out.mono ?_); rintro e w' ⟨v, rfl, hv, rfl⟩; have HV := hid hv; clear hv)
              · go_ret
                exact ⟨by rw [fairB_no (HL2.out.bad HLT.out hk0 h0 rfl HV.out (by assumption))]; rfl, HB2.out⟩
              · go_roundw
                case rel => exact ⟨m + 1, by omega, by go_num, ⟨_, HL2.out, HBK2.out⟩, HL2.out.good HF2.out hk0 rfl HV.out (by omega), HB2.out⟩
                case measure => simp [intOf]; omega
            · go_wp2
              go_roundw
              case rel => exact ⟨m + 1, by omega, by go_num, ⟨_, HL2.out, HBK2.out⟩, HF2.out.few (by omega), HB2.out⟩
              case measure => simp [intOf]; omega
          · obtain ⟨t1, t2⟩ := inB_iff.1 ht
            obtain ⟨t, rfl⟩ : ∃ t' : Nat, t = (t' : Int) := ⟨t.toNat, by omega⟩
            have t3 : t < 4 := by omega
            have cz := blk_cells HBK.out (j := t) (by have := HL.out.len; omega)
            go_upto_region 9 with (go_at_call 19; (with_reducible refine (within_any _ _ _ _).mono ?_); rintro e w' ⟨rfl, rfl⟩)
            refine wp_rename (FairMid w (whoOf ps) n k m) ?_ ?_
            · refine ⟨⟨_, HL.out.this HW.out n4 (by omega), ?_⟩, HS.out.fair, bnew (HS.out.below.setCell (Nat.le_refl _) _) _⟩
              rw [Below.heap_alloc _ _ _ (by simpa using hgl), blk_setCell HBK.out]
              simp [List.map_set]
            intro w2 h2
            obtain ⟨⟨zs2, hL2, hblk2⟩, hf2, hb2⟩ := h2
            have HL2 := hid hL2
            have HBK2 := hid hblk2
            have HF2 := hid hf2
            have HB2 := hid hb2
            have hz4 := hL2.len
            have fz2 := fun j => frozen_of_blk hblk2 j
            have HMN := hid (Min_any zs2 w.heap.size n 4 w2 (by omega) (by omega) (fun j hj => blk_cells HBK2.out (by omega)))
            clear hL2 hblk2 hf2 hb2
            by_cases h0 : 0 ≤ (m : Int) + 1 - k
            · go_wp2_with (go_at_call 20; (with_reducible refine HMN.out.mono ?_); rintro e w' ⟨v, rfl, hv, rfl⟩; have HV := hid hv; clear hv)
              · go_ret
                exact ⟨by rw [fairB_no (HL2.out.bad HLT.out hk0 h0 rfl HV.out (by assumption))]; rfl, HB2.out⟩
              · go_roundw
                case rel => exact ⟨m + 1, by omega, by go_num, ⟨_, HL2.out, HBK2.out⟩, HL2.out.good HF2.out hk0 rfl HV.out (by omega), HB2.out⟩
                case measure => simp [intOf]; omega
            · go_wp2
              go_roundw
              case rel => exact ⟨m + 1, by omega, by go_num, ⟨_, HL2.out, HBK2.out⟩, HF2.out.few (by omega), HB2.out⟩
              case measure => simp [intOf]; omega
        · obtain rfl : m = len := by omega
          have HN : Hid (fairB (whoOf ps) n k = true) := hid (fairB_yes ⟨n1, n4, hk0, by have := HS.out.fair; unfold whoOf; rw [List.length_map, HCN.out]; exact this⟩)
          go_wp2
          go_ret
          exact ⟨by rw [HN.out]; rfl, HS.out.below⟩

end Go.Proofs.Ytbenbbgcdcafaaa
