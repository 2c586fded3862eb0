/-
  stripe.Rows, and the document's: the stripes of some places as a list.
-/
import Derived.Test.YtjfinnjmcnjciaaNlw
import Derived.Test.YtjfinnjmcnjciaaBoth
import Derived.Test.YtjfinnjmcnjciaaStrP
import Derived.Test.YtjfinnjmcnjciaaRefs2
import Derived.Deep.DeepCutAuto
import Derived.BigQuiet
namespace Go.Proofs.Ytjfinnjmcnjciaa
open Go.RowKit
attribute [local go_sem] Later.cell Later.frozen

/-- The stripes below n that some of the places has. -/
def rowsL (m : PM) (zs : List Int) (n : Nat) : List Int := ((List.range n).filter fun k : Nat => zs.any fun a => m.hash a == (k : Int)).map fun k : Nat => (k : Int)
theorem rowsL_zero (m : PM) (zs : List Int) : rowsL m zs 0 = [] := rfl
theorem rowsL_yes {m : PM} {zs : List Int} {n : Nat} (h : (zs.any fun a => m.hash a == (n : Int)) = true) : rowsL m zs (n + 1) = rowsL m zs n ++ [(n : Int)] := by
  unfold rowsL
  rw [List.range_succ, List.filter_append, List.map_append]
  simp only [List.filter_cons, h, List.filter_nil, if_true, List.map_cons, List.map_nil]
theorem rowsL_no {m : PM} {zs : List Int} {n : Nat} (h : (zs.any fun a => m.hash a == (n : Int)) = false) : rowsL m zs (n + 1) = rowsL m zs n := by
  unfold rowsL
  rw [List.range_succ, List.filter_append, List.map_append]
  simp only [List.filter_cons, h, List.filter_nil, List.map_nil, List.append_nil, Bool.false_eq_true, if_false]
theorem rowsL_len (m : PM) (zs : List Int) (n : Nat) : (rowsL m zs n).length ≤ n := by
  unfold rowsL
  rw [List.length_map]
  have := List.length_filter_le (fun k : Nat => zs.any fun a => m.hash a == (k : Int)) (List.range n)
  rw [List.length_range] at this
  exact this
theorem hash_lt (m : PM) (a : Int) : m.hash a < 16 ∧ -1 ≤ m.hash a ∧ (m.Ok → m.hash a < m.s) := by
  unfold PM.hash
  split
  · rename_i h
    have h1 := h.1.s1
    have h2 := h.1.s2
    have := Nat.mod_lt (a.toNat ^^^ (a.toNat >>> 4)) (show 0 < m.s.toNat by omega)
    refine ⟨by omega, by omega, fun _ => by omega⟩
  · refine ⟨by omega, by omega, fun h => by have := h.s1; omega⟩
theorem rowsL_more {m : PM} (h : m.Ok) (zs : List Int) : ∀ d, m.s.toNat + d ≤ 16 → rowsL m zs (m.s.toNat + d) = rowsL m zs m.s.toNat
  | 0, _ => rfl
  | d + 1, hd => by
    rw [show m.s.toNat + (d + 1) = m.s.toNat + d + 1 from rfl, rowsL_no, rowsL_more h zs d (by omega)]
    rw [Bool.eq_false_iff]
    intro hq
    obtain ⟨a, _, ha⟩ := List.any_eq_true.1 hq
    have h2 := (hash_lt m a).2.2 h
    simp at ha
    omega
theorem rowsL_ok {m : PM} (h : m.Ok) (zs : List Int) : rowsL m zs 16 = rowsL m zs m.s.toNat := by
  have := rowsL_more h zs (16 - m.s.toNat) (by have := h.s2; omega)
  rw [← this]
  congr 1
  have := h.s2
  omega
theorem rowsL_bad {m : PM} (h : ¬ m.Ok) (zs : List Int) : ∀ n, rowsL m zs n = []
  | 0 => rfl
  | n + 1 => by
    rw [rowsL_no, rowsL_bad h zs n]
    rw [Bool.eq_false_iff]
    intro hq
    obtain ⟨a, _, ha⟩ := List.any_eq_true.1 hq
    rw [PM.hash_no a (.inl h)] at ha
    simp at ha

/-- Which stripes the first i places have. -/
def amF (m : PM) (zs : List Int) (i : Nat) (k : Nat) : Bool := (zs.take i).any fun a => m.hash a == (k : Int)
theorem amF_zero (m : PM) (zs : List Int) (k : Nat) : amF m zs 0 k = false := rfl
theorem amF_succ (m : PM) (zs : List Int) {i : Nat} (h : i < zs.length) (k : Nat) : amF m zs (i + 1) k = (amF m zs i k || m.hash (zs.getD i 0) == (k : Int)) := by
  unfold amF
  rw [List.take_succ_eq_append_getElem h, List.any_append]
  simp [h]
theorem amF_all (m : PM) (zs : List Int) (k : Nat) : amF m zs zs.length k = zs.any fun a => m.hash a == (k : Int) := by
  unfold amF
  rw [List.take_length]
def amA (f : Nat → Bool) : Array Value := #[.bool (f 0), .bool (f 1), .bool (f 2), .bool (f 3), .bool (f 4), .bool (f 5), .bool (f 6), .bool (f 7), .bool (f 8), .bool (f 9), .bool (f 10), .bool (f 11), .bool (f 12), .bool (f 13), .bool (f 14), .bool (f 15)]
theorem amA_at (f : Nat → Bool) {k : Nat} (h : k < 16) : (amA f)[k]? = some (.bool (f k)) := by
  have : k = 0 ∨ k = 1 ∨ k = 2 ∨ k = 3 ∨ k = 4 ∨ k = 5 ∨ k = 6 ∨ k = 7 ∨ k = 8 ∨ k = 9 ∨ k = 10 ∨ k = 11 ∨ k = 12 ∨ k = 13 ∨ k = 14 ∨ k = 15 := by omega
  rcases this with rfl | rfl | rfl | rfl | rfl | rfl | rfl | rfl | rfl | rfl | rfl | rfl | rfl | rfl | rfl | rfl <;> rfl
theorem amA_set (f g : Nat → Bool) {q : Nat} (h : q < 16) (hg : ∀ k, g k = (f k || decide (k = q))) : (amA f).setIfInBounds q (.bool true) = amA g := by
  have : q = 0 ∨ q = 1 ∨ q = 2 ∨ q = 3 ∨ q = 4 ∨ q = 5 ∨ q = 6 ∨ q = 7 ∨ q = 8 ∨ q = 9 ∨ q = 10 ∨ q = 11 ∨ q = 12 ∨ q = 13 ∨ q = 14 ∨ q = 15 := by omega
  have hg0 : ∀ k, k ≠ q → g k = f k := fun k hk => by rw [hg, decide_eq_false hk, Bool.or_false]
  have hg1 : g q = true := by rw [hg, decide_eq_true rfl, Bool.or_true]
  apply Array.ext_getElem?
  intro k
  rw [Array.getElem?_setIfInBounds]
  by_cases hk : k < 16
  · rw [amA_at g hk, amA_at f hk]
    by_cases e : q = k
    · subst e; rw [if_pos rfl, hg1, if_pos (show q < (amA f).size from h)]
    · rw [if_neg e, hg0 k (fun e2 => e e2.symm)]
  · have h1 : (amA g)[k]? = none := Array.getElem?_eq_none (by show 16 ≤ k; omega)
    have h2 : (amA f)[k]? = none := Array.getElem?_eq_none (by show 16 ≤ k; omega)
    rw [h1, h2]
    split
    · rename_i e; omega
    · rfl
theorem run_index_am (f : Nat → Bool) {k : Nat} (h : k < 16) (i : Int) (hi : i = k) (W : World) : (Instr.index 164 (.agg (amA f)) (.int .i64 i)).run Try.prog W = .ok (.bool (f k)) W := by
  subst hi
  have hu : Try.prog.underlying 164 = some (.array 16 4) := Try.underlying164
  have hn : (0 : Int) ≤ (k : Int) ∧ (k : Int) < ((16 : Nat) : Int) := by omega
  have ha := Try.isAgg4
  have hz := Try.sizeOf4
  have hc := amA_at f h
  simp [Instr.index, run_underlying hu, asIntOf, hn, go_sem, ha, hz, hc]
  intro h16
  omega

/-- What Rows tells: the list, of the call's own. -/
def RowsRet (w : World) (l : List Int) (e : Ending) (w' : World) : Prop := ∃ v, e = .returned v ∧ NL w' w.heap.size v l ∧ Below w.heap.size w w'

/-- Where Rows stands in its first loop. -/
structure RwAt (w : World) (m : PM) (f : Nat → Bool) (W : World) : Prop where
  map : MapAt 31 W w.heap.size m
  am : W.heap[w.heap.size + 1]? = some (.cells (amA f) 164 (0, 0))
  below : Below w.heap.size w W
theorem RwAt.later {w : World} {m : PM} {f : Nat → Bool} {W W' : World} (h : RwAt w m f W) (hb : Below W.heap.size W W') : RwAt w m f W' :=
  ⟨h.map.below hb, (hb.block _ (lt_of_block h.am)).trans h.am, bthen h.below hb⟩
theorem RwAt.set {w : World} {m : PM} {f g : Nat → Bool} {W : World} (h : RwAt w m f W) {q : Nat} (hq : q < 16) (hg : ∀ k, g k = (f k || decide (k = q))) :
    RwAt w m g (W.setCell ⟨w.heap.size + 1, q, none⟩ (.bool true)) := by
  refine ⟨?_, ?_, h.below.setCell (by show w.heap.size ≤ w.heap.size + 1; omega) _⟩
  · have h1 := h.map
    unfold MapAt at h1 ⊢
    rw [Below.heap_setCell _ _ _ _ (by show w.heap.size ≠ w.heap.size + 1; omega)]
    exact h1
  · rw [blk_setCell h.am, amA_set f g hq hg]
theorem infoB : (Try.prog.info? 164).map (·.size) = some 16 := by kernel_rfl
theorem amF_new (m : PM) (zs : List Int) (w : World) : amA (amF m zs 0) = #[.bool false, .bool false, .bool false, .bool false, .bool false, .bool false, .bool false, .bool false, .bool false, .bool false, .bool false, .bool false, .bool false, .bool false, .bool false, .bool false] := rfl

set_option maxHeartbeats 4000000 in
theorem Rows_any (m : PM) (a0 : Option Addr) (len0 cap0 : Nat) (zs : List Int) (w : World) (hr : IntRow w a0 len0 zs) (hl0 : len0 ≤ 1000) :
    Calls Try.prog 91 #[m.v, .slice a0 len0 cap0] w (RowsRet w (rowsL m zs 16)) := by
  have HR := hid hr
  have HLZ := hid hr.1
  clear hr
  have HH := hid (fun (z : Int) W => Hash_any m z W)
  have HM : Hid (m = m) := hid rfl
  obtain ⟨s, l, t, c, d⟩ := m
  show Calls _ _ #[.agg #[.int .i64 s, .int .i64 l, .int .i64 t, .int .i64 c, .int .i64 d], _] _ _
  have HW : Hid (RwAt w ⟨s, l, t, c, d⟩ (amF ⟨s, l, t, c, d⟩ zs 0) ((w.alloc (.cells #[.int .i64 s, .int .i64 l, .int .i64 t, .int .i64 c, .int .i64 d] 31)).alloc (.cells #[.bool false, .bool false, .bool false, .bool false, .bool false, .bool false, .bool false, .bool false, .bool false, .bool false, .bool false, .bool false, .bool false, .bool false, .bool false, .bool false] 164))) := hid (by
    refine ⟨(MapAt.new 31 w ⟨s, l, t, c, d⟩).alloc _, ?_, bnew (bnew (bid w) _) _⟩
    have h2 := heap_alloc_new (w.alloc (.cells #[.int .i64 s, .int .i64 l, .int .i64 t, .int .i64 c, .int .i64 d] 31)) (.cells (amA (amF ⟨s, l, t, c, d⟩ zs 0)) 164)
    rw [size_alloc1] at h2
    exact h2)
  go_enter Try.func91, Try.ntmps91
  go_upto_region 2 with fail
  refine wp_rename _ HW.out ?_
  clear HW
  intro W1 hk1
  have HK1 := hid hk1
  clear hk1
  go_wp2_with fail
  go_loopw [14] (fun i W => ∃ k : Nat, k ≤ len0 ∧ i = .int .i64 k ∧ RwAt w ⟨s, l, t, c, d⟩ (amF ⟨s, l, t, c, d⟩ zs k) W) (fun i _ => len0 - (intOf i).toNat)
  case atStart => exact ⟨0, by omega, rfl, HK1.out⟩
  case round =>
    clear HK1
    obtain ⟨k, hk, rfl, hR⟩ := hrel
    have HK := hid hR
    clear hR
    by_cases hlt : k < len0
    · obtain ⟨m0, m1, m2, m3, m4, m5⟩ := HK.out.map.facts
      obtain ⟨b, off, rfl, hb, hcs⟩ := (HR.out.below HK.out.below).at (by omega)
      have cq := hcs k hlt
      clear hcs
      have g1 : w.heap.size + 1 < wr.heap.size := lt_of_block HK.out.am
      have HS := hid (fun q => amF_succ ⟨s, l, t, c, d⟩ zs (i := k) (by rw [HLZ.out]; exact hlt) q)
      have HB := hid (hash_lt ⟨s, l, t, c, d⟩ (zs.getD k 0))
      have HC := hid (fun W => HH.out (zs.getD k 0) W)
      generalize PM.hash ⟨s, l, t, c, d⟩ (zs.getD k 0) = h at *
      generalize zs.getD k 0 = z at *
      have n1 : (0 : Int) ≤ (k : Int) := by omega
      have n2 : (k : Int) < (len0 : Int) := by omega
      obtain ⟨hb1, hb2, _⟩ := HB.out
      go_upto_region 6 with (go_at_call 90; (with_reducible refine (HC.out _).mono ?_); rintro e w4 ⟨rfl, hb4⟩; have HB4 := hid hb4; clear hb4)
      clear HC cq m0 m1 m2 m3 m4
      refine wp_rename _ (HK.out.later HB4.out) ?_
      clear HB4 HK
      intro W5 hk5
      have HK := hid hk5
      clear hk5
      by_cases h0 : 0 ≤ h
      · obtain ⟨q, rfl⟩ : ∃ q : Nat, h = q := ⟨h.toNat, by omega⟩
        have hq : q < 16 := by omega
        have q1 : (q : Int) < 16 := by omega
        have fq := frozen_of_blk HK.out.am q
        have cq := (cell_of_blk HK.out.am q).trans (amA_at _ hq)
        go_wp2_with fail
        go_roundw
        case rel => exact ⟨k + 1, by omega, by go_num, HK.out.set hq fun j => by rw [HS.out]; congr 1; rw [Bool.eq_iff_iff]; simp; omega⟩
        case measure => simp [intOf]; omega
      · go_wp2_with fail
        go_roundw
        case rel => exact ⟨k + 1, by omega, by go_num, by
          have e : amF ⟨s, l, t, c, d⟩ zs (k + 1) = amF ⟨s, l, t, c, d⟩ zs k := by
            funext j
            rw [HS.out, show (h == (j : Int)) = false by simp; omega, Bool.or_false]
          rw [e]
          exact HK.out⟩
        case measure => simp [intOf]; omega
    · obtain rfl : k = len0 := by omega
      have HA := hid (show ∀ j, amF ⟨s, l, t, c, d⟩ zs k j = zs.any fun a => PM.hash ⟨s, l, t, c, d⟩ a == (j : Int) from fun j => by have h := amF_all ⟨s, l, t, c, d⟩ zs j; rw [HLZ.out] at h; exact h)
      generalize amF ⟨s, l, t, c, d⟩ zs k = f at *
      have hN := NL.nil wr w.heap.size
      have HN := hid hN
      clear hN
      have c0 : wr.cell? ⟨w.heap.size + 1, 0, none⟩ = some (.bool (f 0)) := cell_of_blk HK.out.am 0
      have c1 : wr.cell? ⟨w.heap.size + 1, 1, none⟩ = some (.bool (f 1)) := cell_of_blk HK.out.am 1
      have c2 : wr.cell? ⟨w.heap.size + 1, 2, none⟩ = some (.bool (f 2)) := cell_of_blk HK.out.am 2
      have c3 : wr.cell? ⟨w.heap.size + 1, 3, none⟩ = some (.bool (f 3)) := cell_of_blk HK.out.am 3
      have c4 : wr.cell? ⟨w.heap.size + 1, 4, none⟩ = some (.bool (f 4)) := cell_of_blk HK.out.am 4
      have c5 : wr.cell? ⟨w.heap.size + 1, 5, none⟩ = some (.bool (f 5)) := cell_of_blk HK.out.am 5
      have c6 : wr.cell? ⟨w.heap.size + 1, 6, none⟩ = some (.bool (f 6)) := cell_of_blk HK.out.am 6
      have c7 : wr.cell? ⟨w.heap.size + 1, 7, none⟩ = some (.bool (f 7)) := cell_of_blk HK.out.am 7
      have c8 : wr.cell? ⟨w.heap.size + 1, 8, none⟩ = some (.bool (f 8)) := cell_of_blk HK.out.am 8
      have c9 : wr.cell? ⟨w.heap.size + 1, 9, none⟩ = some (.bool (f 9)) := cell_of_blk HK.out.am 9
      have c10 : wr.cell? ⟨w.heap.size + 1, 10, none⟩ = some (.bool (f 10)) := cell_of_blk HK.out.am 10
      have c11 : wr.cell? ⟨w.heap.size + 1, 11, none⟩ = some (.bool (f 11)) := cell_of_blk HK.out.am 11
      have c12 : wr.cell? ⟨w.heap.size + 1, 12, none⟩ = some (.bool (f 12)) := cell_of_blk HK.out.am 12
      have c13 : wr.cell? ⟨w.heap.size + 1, 13, none⟩ = some (.bool (f 13)) := cell_of_blk HK.out.am 13
      have c14 : wr.cell? ⟨w.heap.size + 1, 14, none⟩ = some (.bool (f 14)) := cell_of_blk HK.out.am 14
      have c15 : wr.cell? ⟨w.heap.size + 1, 15, none⟩ = some (.bool (f 15)) := cell_of_blk HK.out.am 15
      have HB := hid HK.out.below
      go_upto_region 11 with fail
      clear c0 c1 c2 c3 c4 c5 c6 c7 c8 c9 c10 c11 c12 c13 c14 c15 HK
      go_loopw [9, 27] (fun v i W => ∃ j : Nat, j ≤ 16 ∧ i = .int .i64 j ∧ NL W w.heap.size v (rowsL ⟨s, l, t, c, d⟩ zs j) ∧ Below w.heap.size w W) (fun _ i _ => 16 - (intOf i).toNat)
      case atStart => exact ⟨0, by omega, rfl, HN.out, HB.out⟩
      case round =>
        clear HN
        obtain ⟨j, hj, rfl, hn, hb⟩ := hrel
        have HN := hid hn
        have HB := hid hb
        clear hn hb
        by_cases hlt : j < 16
        · have hix : ∀ W, (Instr.index 164 (.agg #[.bool (f 0), .bool (f 1), .bool (f 2), .bool (f 3), .bool (f 4), .bool (f 5), .bool (f 6), .bool (f 7), .bool (f 8), .bool (f 9), .bool (f 10), .bool (f 11), .bool (f 12), .bool (f 13), .bool (f 14), .bool (f 15)]) (.int .i64 (j : Int))).run Try.prog W = .ok (.bool (f j)) W := fun W => run_index_am f hlt _ rfl W
          have j1 : (j : Int) < 16 := by omega
          cases hf : f j
          · rw [hf] at hix
            have HE := hid (rowsL_no (m := ⟨s, l, t, c, d⟩) (zs := zs) (n := j) (by rw [← HA.out j]; exact hf))
            clear hf
            go_wp2_with fail
            go_roundw
            case rel => exact ⟨j + 1, by omega, by go_num, by rw [HE.out]; exact HN.out, HB.out⟩
            case measure => simp [intOf]; omega
          · rw [hf] at hix
            have HE := hid (rowsL_yes (m := ⟨s, l, t, c, d⟩) (zs := zs) (n := j) (by rw [← HA.out j]; exact hf))
            have HL := hid (rowsL_len ⟨s, l, t, c, d⟩ zs j)
            clear hf
            go_wp2_with (at_builtin; refine wpList_append_nl1 rfl (.tmp 32) (.tmp 34) rfl rfl HN.out rfl rfl (Nat.le_trans (Nat.succ_le_succ HL.out) (Nat.le_trans hlt (by decide))) HB.out.size ?_; intro v' w' hn' hb'; have HN2 := hid hn'; have HB2 := hid hb'; clear hn' hb')
            go_roundw
            case rel => exact ⟨j + 1, by omega, by go_num, by rw [HE.out]; exact HN2.out, HB.out.trans HB2.out⟩
            case measure => simp [intOf]; omega
        · obtain rfl : j = 16 := by omega
          go_wp2_with fail
          go_ret
          exact ⟨_, rfl, HN.out, HB.out⟩

end Go.Proofs.Ytjfinnjmcnjciaa
