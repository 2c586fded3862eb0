/-
  PlaceOnce, its walk.
-/
import Derived.Test.YtjekhjjighbfaaaDoorCount
import Derived.Test.YtjekhjjighbfaaaDoorHash
import Derived.Test.YtjekhjjighbfaaaDoorFirst
namespace Go.Proofs.YtjekhjjighbfaaaDoor
open Go.RowKit
attribute [local go_sem] Later.cell Later.frozen

theorem len_flat (f : Nat → List Int) (c : Nat) (h : ∀ i, (f i).length = c) : ∀ k, ((List.range k).flatMap f).length = k * c := by
  intro k
  induction k with
  | zero => simp
  | succ k ih => rw [flat_succ, List.length_append, ih, h, Nat.succ_mul]
theorem len_lockL (m : PM) (i p : Nat) : (m.lockL i p).length = p := by simp [PM.lockL]
theorem len_condL (m : PM) (i p : Nat) : (m.condL i p).length = p := by simp [PM.condL]
theorem len_nodL (m : PM) (t j : Nat) : (m.nodL t j).length = j * 2 := len_flat _ 2 (fun _ => rfl) j
theorem len_thrL (m : PM) (t : Nat) : (m.thrL t).length = 3 := rfl
theorem len_z1 (m : PM) (k : Nat) : (m.z1 k).length = 2 + k := by simp [PM.z1, PM.z0]; omega
theorem len_z2 (m : PM) (k : Nat) : (m.z2 k).length = 2 + m.s.toNat + k * 6 := by rw [PM.z2, List.length_append, len_z1, len_flat _ 6 (fun i => len_lockL m i 6)]
theorem len_z3 (m : PM) (k : Nat) : (m.z3 k).length = 2 + m.s.toNat + m.l.toNat * 6 + k * (3 + m.l.toNat * 2) := by
  rw [PM.z3, List.length_append, len_z2, len_flat _ (3 + m.l.toNat * 2) (fun i => by rw [List.length_append, len_nodL]; rfl)]
theorem len_z4 (m : PM) (k : Nat) : (m.z4 k).length = 2 + m.s.toNat + m.l.toNat * 6 + m.t.toNat * (3 + m.l.toNat * 2) + k * 6 := by rw [PM.z4, List.length_append, len_z3, len_flat _ 6 (fun i => len_condL m i 6)]
theorem len_z5 (m : PM) (k : Nat) : (m.z5 k).length = 2 + m.s.toNat + m.l.toNat * 6 + m.t.toNat * (3 + m.l.toNat * 2) + m.c.toNat * 6 + k * 2 := by rw [PM.z5, List.length_append, len_z4, len_flat _ 2 (fun _ => rfl)]
theorem small_tl {m : PM} (h : m.Ok) (k : Nat) (hk : k ≤ m.t.toNat) : k * (3 + m.l.toNat * 2) ≤ 44 := by
  have h1 := h.l2
  have h2 := h.t2
  have a : k ≤ 4 := by omega
  have b : 3 + m.l.toNat * 2 ≤ 11 := by omega
  exact Nat.le_trans (Nat.mul_le_mul a b) (by decide)

/-- The state of the law while it gathers: the list, the histogram of zeros, the map. -/
structure Gath (m : PM) (wB : World) (bm bh : Nat) (v : Value) (zs : List Int) (wr : World) : Prop where
  lst : Lst 3 wB v zs wr
  map : MapAt 24 wr bm m
  his : Ints 3 wr bh bh m.size.toNat (List.replicate m.size.toNat 0)
  lm : bm < wB.heap.size
  lh : bh < wB.heap.size
theorem Gath.later {m : PM} {wB wr w' : World} {bm bh : Nat} {v : Value} {zs : List Int} (h : Gath m wB bm bh v zs wr) (hb : Below wr.heap.size wr w') : Gath m wB bm bh v zs w' :=
  ⟨h.lst.later hb, h.map.below hb, h.his.below hb, h.lm, h.lh⟩
theorem Gath.grown {m : PM} {wB wr w' : World} {bm bh g cap : Nat} {v : Value} {zs zs' : List Int} (h : Gath m wB bm bh v zs wr) (hb : Below wB.heap.size wr w') (hi : Ints 3 w' wB.heap.size g cap zs') :
    Gath m wB bm bh (.slice (some ⟨g, 0, none⟩) zs'.length cap) zs' w' := by
  have hw : Wrote (fun k => wB.heap.size ≤ k) wr w' := ⟨hb.os, hb.tape, hb.output, hb.size, fun k hk hn => hb.block k (by omega)⟩
  refine ⟨⟨⟨g, cap, rfl, hi⟩, h.lst.below.trans hb⟩, ?_, ?_, h.lm, h.lh⟩
  · exact (hb.block bm h.lm).trans h.map
  · exact h.his.kept hw (by have := h.lh; omega)

theorem Gath.step {m : PM} {wB wr W w' : World} {bm bh g cap : Nat} {v v' : Value} {zs zs' : List Int} (h : Gath m wB bm bh v zs wr) (hb : Below wr.heap.size wr W) (hi : Ints 3 w' wB.heap.size g cap zs') (hw : Below wB.heap.size W w')
    (hv : v' = .slice (some ⟨g, 0, none⟩) zs'.length cap) : Gath m wB bm bh v' zs' w' := by
  subst hv
  exact (h.later hb).grown hw hi

theorem len_all {m : PM} (h : m.Ok) : ((m.z5 m.d.toNat).length : Int) = m.size := by
  rw [len_z5, m.size_ok h]
  have h1 := h.s1
  have h2 := h.l1
  have h3 := h.t1
  have h4 := h.c1
  have h5 := h.d1
  have e : ((m.t.toNat * (3 + m.l.toNat * 2) : Nat) : Int) = m.t * 3 + m.t * m.l * 2 := by
    rw [Int.natCast_mul, show ((m.t.toNat : Nat) : Int) = m.t by omega, show ((3 + m.l.toNat * 2 : Nat) : Int) = 3 + m.l * 2 by omega, Int.mul_add, Int.mul_assoc]
  simp only [PM.from_]
  generalize m.t.toNat * (3 + m.l.toNat * 2) = q at *
  generalize m.t * m.l = tl at *
  omega
theorem z5_in {m : PM} (h : m.Ok) {k : Nat} (hk : k < (m.z5 m.d.toNat).length) : 0 ≤ (m.z5 m.d.toNat).getD k 0 ∧ (m.z5 m.d.toNat).getD k 0 < m.size := by
  have hc := count_all h ((m.z5 m.d.toNat).getD k 0)
  have hm : (m.z5 m.d.toNat).getD k 0 ∈ m.z5 m.d.toNat := by simp [hk]
  have hp := List.count_pos_iff.2 hm
  by_cases hr : 0 ≤ (m.z5 m.d.toNat).getD k 0 ∧ (m.z5 m.d.toNat).getD k 0 < m.size
  · exact hr
  · rw [if_neg hr] at hc
    omega

/-- The histogram of the first k. -/
def hist (zs : List Int) (n k : Nat) : List Int := (List.range n).map fun (j : Nat) => ((zs.take k).count (j : Int) : Int)
theorem hist_len (zs : List Int) (n k : Nat) : (hist zs n k).length = n := by simp [hist]
theorem hist_zero (zs : List Int) (n : Nat) : hist zs n 0 = List.replicate n 0 := by
  unfold hist
  rw [List.take_zero]
  apply List.ext_getElem <;> simp
theorem hist_at (zs : List Int) (n k j : Nat) (hj : j < n) : (hist zs n k).getD j 0 = ((zs.take k).count (j : Int) : Int) := by simp [hist, hj]
theorem hist_le (zs : List Int) (n k j : Nat) (hj : j < n) : 0 ≤ (hist zs n k).getD j 0 ∧ (hist zs n k).getD j 0 ≤ k := by
  rw [hist_at _ _ _ _ hj]
  have := List.count_le_length (a := (j : Int)) (l := zs.take k)
  have h2 := List.length_take_le k zs
  omega
theorem hist_step (zs : List Int) (n k q : Nat) (hk : k < zs.length) (hq : zs.getD k 0 = (q : Int)) : hist zs n (k + 1) = (hist zs n k).set q ((hist zs n k).getD q 0 + 1) := by
  have ht : zs.take (k + 1) = zs.take k ++ [(q : Int)] := by
    rw [List.take_succ_eq_append_getElem hk, ← hq]
    simp [hk]
  apply List.ext_getElem
  · simp [hist]
  · intro j h1 h2
    rw [hist_len] at h1
    rw [List.getElem_set]
    by_cases hj : q = j
    · subst hj
      rw [if_pos rfl, hist_at _ _ _ _ h1]
      simp [hist, ht, List.count_append]
    · rw [if_neg hj]
      have hne : ¬ ((q : Int) = (j : Int)) := by omega
      simp [hist, ht, List.count_append, List.count_singleton, hne]

set_option maxRecDepth 100000 in
set_option maxHeartbeats 4000000 in
theorem once_walk (k0 k1 k2 k3 k4 : Int) (w : World) :
    Calls Tryd.prog 4 #[.agg #[.int .i64 k0, .int .i64 k1, .int .i64 k2, .int .i64 k3, .int .i64 k4]] w fun e w' => e = .returned (.bool true) ∧ Below w.heap.size w w' := by
  obtain ⟨i0, hi, hz0, hz1, hz2⟩ := info_parts infoInt
  go_enter Tryd.func4, Tryd.ntmps4
  go_wp2_with (go_at_call 8; refine (Near_ex _ _ _ _ _ _).mono ?_; rintro e w1 ⟨⟨s, l, t, c, d, hok, rfl⟩, hb1⟩; have HOK := hid hok; obtain ⟨s1, s2, l1, l2, t1, t2, c1, c2, d1, d2⟩ := hok; obtain ⟨hc1, hf1, hz1'⟩ := bcell hb1 (size_alloc1 _ _); have HB1 := hid hb1; clear hb1)
  have hsz := PM.size_bounds HOK.out
  obtain ⟨z1, z2⟩ := hsz
  have E1 : Hid (PM.size ⟨s, l, t, c, d⟩ = (((PM.size ⟨s, l, t, c, d⟩).toNat : Nat) : Int)) := hid (by omega)
  have E2 : Hid (i0.bytes * (PM.size ⟨s, l, t, c, d⟩).toNat ≤ 281474976710656) := hid (by rw [hz2]; omega)
  have E3 : Hid ((PM.size ⟨s, l, t, c, d⟩).toNat ≤ maxLen) := hid (by unfold maxLen; omega)
  go_wp2_with (first | (go_at_call 10; refine (Size_any ⟨s, l, t, c, d⟩ _).mono ?_; rintro e w2 ⟨rfl, hb2⟩; have HM := hid ((MapAt.new 24 w1 ⟨s, l, t, c, d⟩).below hb2); have HB2 := hid (bthen (bnew (bthen (bnew (bid w) _) HB1.out) _) hb2); clear hb2 HB1 hc1 hf1 hz1'; obtain ⟨m0, m1, m2, m3, m4, m5⟩ := HM.out.facts) | (at_make; refine wpList_make_full _ rfl _ _ 32 rfl w2.heap.size 3 i0 (.int .i64 0) 1 Tryd.underlying32 hi hz0 hz1 .i64 .i64 _ _ (PM.size ⟨s, l, t, c, d⟩).toNat rfl rfl E1.out E1.out E2.out E3.out (Nat.le_refl _) ?_; intro w3 hown hg1; have HI := hid (Ints.made hown); clear hown))
  have hb3 : Below w2.heap.size w2 w3 := (Below.refl _ _).grown hg1 (Nat.le_refl _) (by simp)
  have HM3 := hid (HM.out.below hb3)
  have HLM := hid HM.out.lt
  have HLW := hid HB2.out.size
  have HB3 := hid (bthen HB2.out hb3)
  have HLT := hid (show w1.heap.size < w3.heap.size from HM3.out.lt)
  have HLH := hid HI.out.lt.2
  clear HM HB2 hb3 hg1 m0 m1 m2 m3 m4 m5
  obtain ⟨m0, m1, m2, m3, m4, m5⟩ := HM3.out.facts
  have hd6 : decide (PM.size ⟨s, l, t, c, d⟩ < 6) = false := by simp; omega
  have SM := hid (fun k hk => small_tl (m := ⟨s, l, t, c, d⟩) HOK.out k hk)
  refine wp_region_later_tail 4 (by kernel_rfl) (by kernel_rfl) ?_
  simp only [List.take_succ_cons, List.take_zero, List.drop_succ_cons, List.drop_zero]
  repeat (go_big_quiet_step (first | (go_at_call 11; with_reducible exact later_call (Clock_any ⟨s, l, t, c, d⟩ _)) | (go_at_call 12; with_reducible exact later_call (Seq_any ⟨s, l, t, c, d⟩ _))))
  refine wpQuiet_nil ?_
  rintro wB ⟨x, hx⟩
  have hwB := x.below
  rw [← hx] at hwB
  clear hx x
  have HWB := hid (bthen HB3.out hwB)
  have HG0 : Hid (Gath ⟨s, l, t, c, d⟩ wB w1.heap.size w2.heap.size (.slice (some ⟨wB.heap.size, 0, none⟩) 2 2) (PM.z1 ⟨s, l, t, c, d⟩ 0) (wB.alloc (.cells #[.int .i64 (PM.at_ ⟨s, l, t, c, d⟩ 0 0 0), .int .i64 (PM.at_ ⟨s, l, t, c, d⟩ 1 0 0)] 3))) := hid
    ⟨⟨⟨wB.heap.size, 2, rfl, Ints.lit [PM.at_ ⟨s, l, t, c, d⟩ 0 0 0, PM.at_ ⟨s, l, t, c, d⟩ 1 0 0] wB 3 _ rfl (Nat.le_refl _) (by simp [maxLen])⟩, bnew (bid wB) _⟩, (HM3.out.below hwB).alloc _, (HI.out.below hwB).alloc _, Nat.lt_of_lt_of_le HLT.out hwB.size, Nat.lt_of_lt_of_le HLH.out hwB.size⟩
  clear HM3 HB3 HLT HLH HI hwB m0 m1 m2 m3 m4 m5
  go_wp2
  go_loopw [6, 7] (fun v i wr => ∃ k : Nat, (k : Int) ≤ s ∧ i = .int .i64 k ∧ Gath ⟨s, l, t, c, d⟩ wB w1.heap.size w2.heap.size v (PM.z1 ⟨s, l, t, c, d⟩ k) wr) (fun _ i _ => s.toNat - (intOf i).toNat)
  case atStart => exact ⟨0, by omega, rfl, HG0.out⟩
  case round =>
    clear HG0
    obtain ⟨k, hk, rfl, hg⟩ := hrel
    have HG := hid hg
    obtain ⟨⟨g, cap, rfl, hI⟩, _⟩ := hg.lst
    have HI := hid hI
    obtain ⟨m0, m1, m2, m3, m4, m5⟩ := hg.map.facts
    clear hg hI
    by_cases hlt : (k : Int) < s
    · have e := z1_succ ⟨s, l, t, c, d⟩ k
      have HE := hid e
      clear e
      have hlen := len_z1 ⟨s, l, t, c, d⟩ k
      have hpos : 0 < (PM.z1 ⟨s, l, t, c, d⟩ k).length := by omega
      have hbig : (PM.z1 ⟨s, l, t, c, d⟩ k).length + 1 ≤ 1000000 := by omega
      clear hlen
      generalize hzs : PM.z1 ⟨s, l, t, c, d⟩ k = zs at *
      have HZ := hid hzs
      clear hzs
      go_wp2_with (first | (go_at_call 13; refine (Stripe_any ⟨s, l, t, c, d⟩ _ _).mono ?_; rintro e w4 ⟨rfl, hb4⟩; obtain ⟨hc4, hf4, hz4⟩ := bcell hb4 rfl; have HB4 := hid hb4; clear hb4) | (at_builtin; refine wpList_append_lit rfl (.tmp 36) (.tmp 40) 32 rfl Tryd.underlying32 hi hz0 hz1 hz2 rfl (HI.out.below HB4.out) [PM.at_ ⟨s, l, t, c, d⟩ 2 k 0] 1 1 rfl rfl rfl hbig (Nat.le_trans HG.out.lst.below.size HB4.out.size) hpos ?_; intro g' cap' w' hown' hg'; have HA := hid hown'; have HAB := hid hg'; clear hown' hg'))
      go_roundw
      case rel =>
        refine ⟨k + 1, by omega, by go_num, ?_⟩
        rw [HE.out]
        exact HG.out.step (bnew HB4.out _) HA.out HAB.out (by simp)
      case measure => simp [intOf]; omega
    · have hkk : k = s.toNat := by omega
      subst hkk
      clear m0 m1 m2 m3 m4 HI
      have HS : Hid (Gath ⟨s, l, t, c, d⟩ wB w1.heap.size w2.heap.size (.slice (some ⟨g, 0, none⟩) (PM.z1 ⟨s, l, t, c, d⟩ s.toNat).length cap) (PM.z2 ⟨s, l, t, c, d⟩ 0) wr) := hid (by rw [show PM.z2 ⟨s, l, t, c, d⟩ 0 = PM.z1 ⟨s, l, t, c, d⟩ s.toNat from List.append_nil _]; exact HG.out)
      obtain ⟨m0, m1, m2, m3, m4, m5⟩ := HG.out.map.facts
      clear HG
      go_wp2
      go_loopw [6, 8] (fun v i wr => ∃ k : Nat, (k : Int) ≤ l ∧ i = .int .i64 k ∧ Gath ⟨s, l, t, c, d⟩ wB w1.heap.size w2.heap.size v (PM.z2 ⟨s, l, t, c, d⟩ k) wr) (fun _ i _ => l.toNat - (intOf i).toNat)
      case atStart => exact ⟨0, by omega, rfl, HS.out⟩
      case round =>
        clear HS
        obtain ⟨k, hk, rfl, hg⟩ := hrel
        have HG := hid hg
        obtain ⟨⟨g, cap, rfl, hI⟩, _⟩ := hg.lst
        have HI := hid hI
        obtain ⟨m0, m1, m2, m3, m4, m5⟩ := hg.map.facts
        clear hg hI
        by_cases hlt : (k : Int) < l
        · have HS : Hid (Gath ⟨s, l, t, c, d⟩ wB w1.heap.size w2.heap.size (.slice (some ⟨g, 0, none⟩) (PM.z2 ⟨s, l, t, c, d⟩ k).length cap) (PM.z2 ⟨s, l, t, c, d⟩ k ++ PM.lockL ⟨s, l, t, c, d⟩ k 0) wr) := hid (by rw [show PM.lockL ⟨s, l, t, c, d⟩ k 0 = [] from rfl, List.append_nil]; exact HG.out)
          clear HG HI
          go_wp2
          clear m0 m1 m2 m3 m4 m5
          go_loopw [6, 9] (fun v i wr => ∃ p : Nat, p ≤ 6 ∧ i = .int .i64 p ∧ Gath ⟨s, l, t, c, d⟩ wB w1.heap.size w2.heap.size v (PM.z2 ⟨s, l, t, c, d⟩ k ++ PM.lockL ⟨s, l, t, c, d⟩ k p) wr) (fun _ i _ => 6 - (intOf i).toNat)
          case atStart => exact ⟨0, by omega, rfl, HS.out⟩
          case round =>
            clear HS
            obtain ⟨p, hp, rfl, hg⟩ := hrel
            have HG := hid hg
            obtain ⟨⟨g, cap, rfl, hI⟩, _⟩ := hg.lst
            have HI := hid hI
            obtain ⟨m0, m1, m2, m3, m4, m5⟩ := hg.map.facts
            clear hg hI
            by_cases hlt2 : p < 6
            · have HL : Hid (PM.z2 ⟨s, l, t, c, d⟩ k ++ PM.lockL ⟨s, l, t, c, d⟩ k (p + 1) = PM.z2 ⟨s, l, t, c, d⟩ k ++ PM.lockL ⟨s, l, t, c, d⟩ k p ++ [PM.at_ ⟨s, l, t, c, d⟩ 3 k p]) := hid (by rw [lockL_succ, List.append_assoc])
              have hlen := len_z2 ⟨s, l, t, c, d⟩ k
              have hlen2 := len_lockL ⟨s, l, t, c, d⟩ k p
              have hlen3 := @List.length_append _ (PM.z2 ⟨s, l, t, c, d⟩ k) (PM.lockL ⟨s, l, t, c, d⟩ k p)
              dsimp only at hlen
              have hpos : 0 < (PM.z2 ⟨s, l, t, c, d⟩ k ++ PM.lockL ⟨s, l, t, c, d⟩ k p).length := by omega
              have hbig : (PM.z2 ⟨s, l, t, c, d⟩ k ++ PM.lockL ⟨s, l, t, c, d⟩ k p).length + 1 ≤ 1000000 := by omega
              clear hlen hlen2 hlen3
              generalize hzs : PM.z2 ⟨s, l, t, c, d⟩ k ++ PM.lockL ⟨s, l, t, c, d⟩ k p = zs at *
              have HZ := hid hzs
              clear hzs
              go_wp2_with (first | (go_at_call 14; refine (Lock_any ⟨s, l, t, c, d⟩ _ _ _).mono ?_; rintro e w4 ⟨rfl, hb4⟩; obtain ⟨hc4, hf4, hz4⟩ := bcell hb4 rfl; have HB4 := hid hb4; clear hb4) | (at_builtin; refine wpList_append_lit rfl (.tmp 52) (.tmp 57) 32 rfl Tryd.underlying32 hi hz0 hz1 hz2 rfl (HI.out.below HB4.out) [PM.at_ ⟨s, l, t, c, d⟩ 3 k p] 1 1 rfl rfl rfl hbig (Nat.le_trans HG.out.lst.below.size HB4.out.size) hpos ?_; intro g' cap' w' hown' hg'; have HA := hid hown'; have HAB := hid hg'; clear hown' hg'))
              go_roundw
              case rel =>
                refine ⟨p + 1, by omega, by go_num, ?_⟩
                rw [HL.out]
                exact HG.out.step (bnew HB4.out _) HA.out HAB.out (by simp)
              case measure => simp [intOf]; omega
            · obtain rfl : p = 6 := by omega
              go_wp2_with fail
              go_roundw
              case rel =>
                refine ⟨k + 1, by omega, by go_num, ?_⟩
                rw [z2_succ]
                exact HG.out
              case measure => simp [intOf]; omega
        · have hkk : k = l.toNat := by omega
          subst hkk
          clear m0 m1 m2 m3 m4 HI
          have HS : Hid (Gath ⟨s, l, t, c, d⟩ wB w1.heap.size w2.heap.size (.slice (some ⟨g, 0, none⟩) (PM.z2 ⟨s, l, t, c, d⟩ l.toNat).length cap) (PM.z3 ⟨s, l, t, c, d⟩ 0) wr) := hid (by rw [show PM.z3 ⟨s, l, t, c, d⟩ 0 = PM.z2 ⟨s, l, t, c, d⟩ l.toNat from List.append_nil _]; exact HG.out)
          obtain ⟨m0, m1, m2, m3, m4, m5⟩ := HG.out.map.facts
          clear HG
          go_wp2
          go_loopw [6, 10] (fun v i wr => ∃ k : Nat, (k : Int) ≤ t ∧ i = .int .i64 k ∧ Gath ⟨s, l, t, c, d⟩ wB w1.heap.size w2.heap.size v (PM.z3 ⟨s, l, t, c, d⟩ k) wr) (fun _ i _ => t.toNat - (intOf i).toNat)
          case atStart => exact ⟨0, by omega, rfl, HS.out⟩
          case round =>
            clear HS
            obtain ⟨k, hk, rfl, hg⟩ := hrel
            have HG := hid hg
            obtain ⟨⟨g, cap, rfl, hI⟩, _⟩ := hg.lst
            have HI := hid hI
            obtain ⟨m0, m1, m2, m3, m4, m5⟩ := hg.map.facts
            clear hg hI
            by_cases hlt : (k : Int) < t
            · have hlen := len_z3 ⟨s, l, t, c, d⟩ k
              dsimp only at hlen
              have hsm := SM.out k (by show k ≤ t.toNat; omega)
              have hpos : 0 < (PM.z3 ⟨s, l, t, c, d⟩ k).length := by omega
              have hbig : (PM.z3 ⟨s, l, t, c, d⟩ k).length + 3 ≤ 1000000 := by omega
              have hub : (PM.z3 ⟨s, l, t, c, d⟩ k).length ≤ 200 := by omega
              clear hlen hsm
              generalize hzs : PM.z3 ⟨s, l, t, c, d⟩ k = zs at *
              have HZ := hid hzs
              clear hzs
              go_wp2_with fail
              refine wp_region_later_first 10 (by kernel_rfl) (by kernel_rfl) (.tmp 6) rfl rfl (fun _ _ _ h => h) ?_
              simp only [List.take_succ_cons, List.take_zero, List.drop_succ_cons, List.drop_zero, Nat.add_one_sub_one, Nat.reduceSub]
              go_frame
              repeat (go_big_quiet_step (first | (go_at_call 15; with_reducible exact later_call (Thread_any ⟨s, l, t, c, d⟩ _ _ _)) | (go_at_call 17; with_reducible exact later_call (Flag_any ⟨s, l, t, c, d⟩ _ _)) ))
              refine wpQuiet_nil ?_
              rintro _ ⟨x, rfl⟩
              go_wp2_with (at_builtin; refine wpList_append_lit rfl (.tmp 65) (.tmp 75) 32 rfl Tryd.underlying32 hi hz0 hz1 hz2 rfl (HI.out.below x.below) [PM.at_ ⟨s, l, t, c, d⟩ 4 k 0, PM.at_ ⟨s, l, t, c, d⟩ 4 k 1, PM.at_ ⟨s, l, t, c, d⟩ 6 k 0] 3 3 rfl rfl rfl hbig (Nat.le_trans HG.out.lst.below.size x.below.size) hpos ?_; intro g' cap' w' hown' hg'; have HA := hid hown'; have HAB := hid hg'; clear hown' hg')
              have hl3 := @List.length_append _ zs [PM.at_ ⟨s, l, t, c, d⟩ 4 k 0, PM.at_ ⟨s, l, t, c, d⟩ 4 k 1, PM.at_ ⟨s, l, t, c, d⟩ 6 k 0]
              have HG2 : Hid (Gath ⟨s, l, t, c, d⟩ wB w1.heap.size w2.heap.size (.slice (some ⟨g', 0, none⟩) (zs ++ [PM.at_ ⟨s, l, t, c, d⟩ 4 k 0, PM.at_ ⟨s, l, t, c, d⟩ 4 k 1, PM.at_ ⟨s, l, t, c, d⟩ 6 k 0]).length cap') (zs ++ (PM.thrL ⟨s, l, t, c, d⟩ k ++ PM.nodL ⟨s, l, t, c, d⟩ k 0)) w') := hid (HG.out.step (bnew x.below _) HA.out HAB.out rfl)
              clear m0 m1 m2 m3 m4 m5 HG HI HA HAB hpos hbig hl3
              obtain ⟨m0, m1, m2, m3, m4, m5⟩ := HG2.out.map.facts
              go_loopw [6, 11] (fun v i wr => ∃ j : Nat, (j : Int) ≤ l ∧ i = .int .i64 j ∧ Gath ⟨s, l, t, c, d⟩ wB w1.heap.size w2.heap.size v (zs ++ (PM.thrL ⟨s, l, t, c, d⟩ k ++ PM.nodL ⟨s, l, t, c, d⟩ k j)) wr) (fun _ i _ => l.toNat - (intOf i).toNat)
              case atStart => exact ⟨0, by omega, rfl, by simpa using HG2.out⟩
              case round =>
                clear HG2 m0 m1 m2 m3 m4 m5
                obtain ⟨j, hj, rfl, hg⟩ := hrel
                have HG := hid hg
                obtain ⟨⟨g, cap, rfl, hI⟩, _⟩ := hg.lst
                have HI := hid hI
                obtain ⟨m0, m1, m2, m3, m4, m5⟩ := hg.map.facts
                clear hg hI
                by_cases hlt2 : (j : Int) < l
                · have HL : Hid (zs ++ (PM.thrL ⟨s, l, t, c, d⟩ k ++ PM.nodL ⟨s, l, t, c, d⟩ k (j + 1)) = (zs ++ (PM.thrL ⟨s, l, t, c, d⟩ k ++ PM.nodL ⟨s, l, t, c, d⟩ k j)) ++ [PM.node ⟨s, l, t, c, d⟩ k j 0, PM.node ⟨s, l, t, c, d⟩ k j 1]) := hid (by rw [nodL_succ, ← List.append_assoc (PM.thrL ⟨s, l, t, c, d⟩ k), ← List.append_assoc])
                  have hl1 := @List.length_append _ zs (PM.thrL ⟨s, l, t, c, d⟩ k ++ PM.nodL ⟨s, l, t, c, d⟩ k j)
                  have hl2 := @List.length_append _ (PM.thrL ⟨s, l, t, c, d⟩ k) (PM.nodL ⟨s, l, t, c, d⟩ k j)
                  have hl3 := len_nodL ⟨s, l, t, c, d⟩ k j
                  have hl4 := len_thrL ⟨s, l, t, c, d⟩ k
                  have hpos : 0 < (zs ++ (PM.thrL ⟨s, l, t, c, d⟩ k ++ PM.nodL ⟨s, l, t, c, d⟩ k j)).length := by omega
                  have hbig : (zs ++ (PM.thrL ⟨s, l, t, c, d⟩ k ++ PM.nodL ⟨s, l, t, c, d⟩ k j)).length + 2 ≤ 1000000 := by omega
                  clear hl1 hl2 hl3 hl4
                  generalize hys : zs ++ (PM.thrL ⟨s, l, t, c, d⟩ k ++ PM.nodL ⟨s, l, t, c, d⟩ k j) = ys at *
                  have HY := hid hys
                  clear hys
                  go_wp2_with fail
                  refine wp_region_later_first 9 (by kernel_rfl) (by kernel_rfl) (.tmp 6) rfl rfl (fun _ _ _ h => h) ?_
                  simp only [List.take_succ_cons, List.take_zero, List.drop_succ_cons, List.drop_zero, Nat.add_one_sub_one, Nat.reduceSub]
                  go_frame
                  repeat (go_big_quiet_step (first | (go_at_call 16; with_reducible exact later_call (Node_any ⟨s, l, t, c, d⟩ _ _ _ _)) ))
                  refine wpQuiet_nil ?_
                  rintro _ ⟨x, rfl⟩
                  go_wp2_with (at_builtin; refine wpList_append_lit rfl (.tmp 83) (.tmp 92) 32 rfl Tryd.underlying32 hi hz0 hz1 hz2 rfl (HI.out.below x.below) [PM.node ⟨s, l, t, c, d⟩ k j 0, PM.node ⟨s, l, t, c, d⟩ k j 1] 2 2 rfl rfl rfl hbig (Nat.le_trans HG.out.lst.below.size x.below.size) hpos ?_; intro g' cap' w' hown' hg'; have HA := hid hown'; have HAB := hid hg'; clear hown' hg')
                  go_roundw
                  case rel =>
                    refine ⟨j + 1, by omega, by go_num, ?_⟩
                    rw [HL.out]
                    exact HG.out.step (bnew x.below _) HA.out HAB.out (by simp)
                  case measure => simp [intOf]; omega
                · have hjj : j = l.toNat := by omega
                  subst hjj
                  go_wp2_with fail
                  go_roundw
                  case rel =>
                    refine ⟨k + 1, by omega, by go_num, ?_⟩
                    rw [z3_succ, HZ.out]
                    exact HG.out
                  case measure => simp [intOf]; omega
            · have hkk : k = t.toNat := by omega
              subst hkk
              clear m0 m1 m2 m3 m4 HI
              have HS : Hid (Gath ⟨s, l, t, c, d⟩ wB w1.heap.size w2.heap.size (.slice (some ⟨g, 0, none⟩) (PM.z3 ⟨s, l, t, c, d⟩ t.toNat).length cap) (PM.z4 ⟨s, l, t, c, d⟩ 0) wr) := hid (by rw [show PM.z4 ⟨s, l, t, c, d⟩ 0 = PM.z3 ⟨s, l, t, c, d⟩ t.toNat from List.append_nil _]; exact HG.out)
              obtain ⟨m0, m1, m2, m3, m4, m5⟩ := HG.out.map.facts
              clear HG
              go_wp2
              go_loopw [6, 12] (fun v i wr => ∃ k : Nat, (k : Int) ≤ c ∧ i = .int .i64 k ∧ Gath ⟨s, l, t, c, d⟩ wB w1.heap.size w2.heap.size v (PM.z4 ⟨s, l, t, c, d⟩ k) wr) (fun _ i _ => c.toNat - (intOf i).toNat)
              case atStart => exact ⟨0, by omega, rfl, HS.out⟩
              case round =>
                clear HS
                obtain ⟨k, hk, rfl, hg⟩ := hrel
                have HG := hid hg
                obtain ⟨⟨g, cap, rfl, hI⟩, _⟩ := hg.lst
                have HI := hid hI
                obtain ⟨m0, m1, m2, m3, m4, m5⟩ := hg.map.facts
                clear hg hI
                by_cases hlt : (k : Int) < c
                · have HS : Hid (Gath ⟨s, l, t, c, d⟩ wB w1.heap.size w2.heap.size (.slice (some ⟨g, 0, none⟩) (PM.z4 ⟨s, l, t, c, d⟩ k).length cap) (PM.z4 ⟨s, l, t, c, d⟩ k ++ PM.condL ⟨s, l, t, c, d⟩ k 0) wr) := hid (by rw [show PM.condL ⟨s, l, t, c, d⟩ k 0 = [] from rfl, List.append_nil]; exact HG.out)
                  clear HG HI
                  go_wp2
                  clear m0 m1 m2 m3 m4 m5
                  go_loopw [6, 13] (fun v i wr => ∃ p : Nat, p ≤ 6 ∧ i = .int .i64 p ∧ Gath ⟨s, l, t, c, d⟩ wB w1.heap.size w2.heap.size v (PM.z4 ⟨s, l, t, c, d⟩ k ++ PM.condL ⟨s, l, t, c, d⟩ k p) wr) (fun _ i _ => 6 - (intOf i).toNat)
                  case atStart => exact ⟨0, by omega, rfl, HS.out⟩
                  case round =>
                    clear HS
                    obtain ⟨p, hp, rfl, hg⟩ := hrel
                    have HG := hid hg
                    obtain ⟨⟨g, cap, rfl, hI⟩, _⟩ := hg.lst
                    have HI := hid hI
                    obtain ⟨m0, m1, m2, m3, m4, m5⟩ := hg.map.facts
                    clear hg hI
                    by_cases hlt2 : p < 6
                    · have HL : Hid (PM.z4 ⟨s, l, t, c, d⟩ k ++ PM.condL ⟨s, l, t, c, d⟩ k (p + 1) = PM.z4 ⟨s, l, t, c, d⟩ k ++ PM.condL ⟨s, l, t, c, d⟩ k p ++ [PM.at_ ⟨s, l, t, c, d⟩ 7 k p]) := hid (by rw [condL_succ, List.append_assoc])
                      have hlen := len_z4 ⟨s, l, t, c, d⟩ k
                      have hlen2 := len_condL ⟨s, l, t, c, d⟩ k p
                      have hlen3 := @List.length_append _ (PM.z4 ⟨s, l, t, c, d⟩ k) (PM.condL ⟨s, l, t, c, d⟩ k p)
                      dsimp only at hlen
                      have hll : (PM.l ⟨s, l, t, c, d⟩).toNat = l.toNat := rfl
                      have htt : (PM.t ⟨s, l, t, c, d⟩).toNat = t.toNat := rfl
                      have hsm := SM.out t.toNat (Nat.le_refl _)
                      have hpos : 0 < (PM.z4 ⟨s, l, t, c, d⟩ k ++ PM.condL ⟨s, l, t, c, d⟩ k p).length := by omega
                      have hbig : (PM.z4 ⟨s, l, t, c, d⟩ k ++ PM.condL ⟨s, l, t, c, d⟩ k p).length + 1 ≤ 1000000 := by omega
                      clear hlen hlen2 hlen3
                      generalize hzs : PM.z4 ⟨s, l, t, c, d⟩ k ++ PM.condL ⟨s, l, t, c, d⟩ k p = zs at *
                      have HZ := hid hzs
                      clear hzs
                      go_wp2_with (first | (go_at_call 18; refine (Cond_any ⟨s, l, t, c, d⟩ _ _ _).mono ?_; rintro e w4 ⟨rfl, hb4⟩; obtain ⟨hc4, hf4, hz4⟩ := bcell hb4 rfl; have HB4 := hid hb4; clear hb4) | (at_builtin; refine wpList_append_lit rfl (.tmp 104) (.tmp 109) 32 rfl Tryd.underlying32 hi hz0 hz1 hz2 rfl (HI.out.below HB4.out) [PM.at_ ⟨s, l, t, c, d⟩ 7 k p] 1 1 rfl rfl rfl hbig (Nat.le_trans HG.out.lst.below.size HB4.out.size) hpos ?_; intro g' cap' w' hown' hg'; have HA := hid hown'; have HAB := hid hg'; clear hown' hg'))
                      go_roundw
                      case rel =>
                        refine ⟨p + 1, by omega, by go_num, ?_⟩
                        rw [HL.out]
                        exact HG.out.step (bnew HB4.out _) HA.out HAB.out (by simp)
                      case measure => simp [intOf]; omega
                    · obtain rfl : p = 6 := by omega
                      go_wp2_with fail
                      go_roundw
                      case rel =>
                        refine ⟨k + 1, by omega, by go_num, ?_⟩
                        rw [z4_succ]
                        exact HG.out
                      case measure => simp [intOf]; omega
                · have hkk : k = c.toNat := by omega
                  subst hkk
                  clear m0 m1 m2 m3 m4 HI
                  have HS : Hid (Gath ⟨s, l, t, c, d⟩ wB w1.heap.size w2.heap.size (.slice (some ⟨g, 0, none⟩) (PM.z4 ⟨s, l, t, c, d⟩ c.toNat).length cap) (PM.z5 ⟨s, l, t, c, d⟩ 0) wr) := hid (by rw [show PM.z5 ⟨s, l, t, c, d⟩ 0 = PM.z4 ⟨s, l, t, c, d⟩ c.toNat from List.append_nil _]; exact HG.out)
                  obtain ⟨m0, m1, m2, m3, m4, m5⟩ := HG.out.map.facts
                  clear HG
                  go_wp2
                  go_loopw [6, 14] (fun v i wr => ∃ k : Nat, (k : Int) ≤ d ∧ i = .int .i64 k ∧ Gath ⟨s, l, t, c, d⟩ wB w1.heap.size w2.heap.size v (PM.z5 ⟨s, l, t, c, d⟩ k) wr) (fun _ i _ => d.toNat - (intOf i).toNat)
                  case atStart => exact ⟨0, by omega, rfl, HS.out⟩
                  case round =>
                    clear HS
                    obtain ⟨k, hk, rfl, hg⟩ := hrel
                    have HG := hid hg
                    obtain ⟨⟨g, cap, rfl, hI⟩, _⟩ := hg.lst
                    have HI := hid hI
                    obtain ⟨m0, m1, m2, m3, m4, m5⟩ := hg.map.facts
                    clear hg hI
                    by_cases hlt : (k : Int) < d
                    · have HE := hid (z5_succ ⟨s, l, t, c, d⟩ k)
                      have hlen := len_z5 ⟨s, l, t, c, d⟩ k
                      dsimp only at hlen
                      have hsm := SM.out t.toNat (Nat.le_refl _)
                      have hpos : 0 < (PM.z5 ⟨s, l, t, c, d⟩ k).length := by omega
                      have hbig : (PM.z5 ⟨s, l, t, c, d⟩ k).length + 2 ≤ 1000000 := by omega
                      clear hlen hsm
                      generalize hzs : PM.z5 ⟨s, l, t, c, d⟩ k = zs at *
                      have HZ := hid hzs
                      clear hzs
                      go_wp2_with fail
                      refine wp_region_later_first 7 (by kernel_rfl) (by kernel_rfl) (.tmp 6) rfl rfl (fun _ _ _ h => h) ?_
                      simp only [List.take_succ_cons, List.take_zero, List.drop_succ_cons, List.drop_zero, Nat.add_one_sub_one, Nat.reduceSub]
                      go_frame
                      repeat (go_big_quiet_step (first | (go_at_call 19; with_reducible exact later_call (Data_any ⟨s, l, t, c, d⟩ _ _)) | (go_at_call 20; with_reducible exact later_call (Owner_any ⟨s, l, t, c, d⟩ _ _)) ))
                      refine wpQuiet_nil ?_
                      rintro _ ⟨x, rfl⟩
                      go_wp2_with (at_builtin; refine wpList_append_lit rfl (.tmp 117) (.tmp 124) 32 rfl Tryd.underlying32 hi hz0 hz1 hz2 rfl (HI.out.below x.below) [PM.at_ ⟨s, l, t, c, d⟩ 8 k 0, PM.at_ ⟨s, l, t, c, d⟩ 8 k 1] 2 2 rfl rfl rfl hbig (Nat.le_trans HG.out.lst.below.size x.below.size) hpos ?_; intro g' cap' w' hown' hg'; have HA := hid hown'; have HAB := hid hg'; clear hown' hg')
                      go_roundw
                      case rel =>
                        refine ⟨k + 1, by omega, by go_num, ?_⟩
                        rw [HE.out]
                        exact HG.out.step (bnew x.below _) HA.out HAB.out (by simp [PM.datL])
                      case measure => simp [intOf]; omega
                    · have hkk : k = d.toNat := by omega
                      subst hkk
                      have hlen := len_all HOK.out
                      have HIN := hid (fun k hk => z5_in (m := ⟨s, l, t, c, d⟩) HOK.out (k := k) hk)
                      have HCA := hid (count_all (m := ⟨s, l, t, c, d⟩) HOK.out)
                      have HW : Hid (w1.heap.size < wB.heap.size ∧ w2.heap.size < wB.heap.size ∧ wB.heap.size ≤ g ∧ Below w.heap.size w wr) := hid ⟨HG.out.lm, HG.out.lh, HI.out.lt.1, HWB.out.trans (HG.out.lst.below.mono HWB.out.size)⟩
                      have HHI : Hid (Ints 3 wr w2.heap.size w2.heap.size (PM.size ⟨s, l, t, c, d⟩).toNat (hist (PM.z5 ⟨s, l, t, c, d⟩ d.toNat) (PM.size ⟨s, l, t, c, d⟩).toNat 0)) := hid (by rw [hist_zero]; exact HG.out.his)
                      have HMM := hid HG.out.map
                      have HMH : Hid (w1.heap.size < w2.heap.size) := HLM
                      have HWH : Hid (w.heap.size ≤ w2.heap.size) := HLW
                      clear HG HOK SM HWB
                      generalize hzs : PM.z5 ⟨s, l, t, c, d⟩ d.toNat = zs at *
                      clear hzs
                      have HN := hid hlen
                      clear hlen
                      go_wp2
                      go_loopw [15] (fun i wr => ∃ k : Nat, k ≤ zs.length ∧ i = .int .i64 k ∧ Ints 3 wr w2.heap.size w2.heap.size (PM.size ⟨s, l, t, c, d⟩).toNat (hist zs (PM.size ⟨s, l, t, c, d⟩).toNat k) ∧ Ints 3 wr wB.heap.size g cap zs ∧ MapAt 24 wr w1.heap.size ⟨s, l, t, c, d⟩ ∧ Below w.heap.size w wr) (fun i _ => zs.length - (intOf i).toNat)
                      case atStart => exact ⟨0, Nat.zero_le _, rfl, HHI.out, HI.out, HMM.out, HW.out.2.2.2⟩
                      case round =>
                        clear HHI HI HMM m0 m1 m2 m3 m4 m5
                        obtain ⟨k, hk, rfl, hh, hl, hm, hb⟩ := hrel
                        have HH := hid hh
                        have HL := hid hl
                        have HM := hid hm
                        have HB := hid hb
                        clear hh hl hm hb
                        have hNn := HN.out
                        by_cases hlt : k < zs.length
                        · have ck := HL.out.cell hlt
                          obtain ⟨r1, r2⟩ := HIN.out k hlt
                          obtain ⟨q, hq⟩ : ∃ q : Nat, zs.getD k 0 = (q : Int) := ⟨(zs.getD k 0).toNat, by omega⟩
                          have HS := hid (hist_step zs (PM.size ⟨s, l, t, c, d⟩).toNat k q hlt hq)
                          rw [hq] at ck r1 r2
                          have hqn : q < (PM.size ⟨s, l, t, c, d⟩).toNat := by omega
                          have cq := HH.out.cell (i := q) (by rw [hist_len]; exact hqn)
                          have fq := HH.out.frozen q
                          have hle := hist_le zs (PM.size ⟨s, l, t, c, d⟩).toNat k q hqn
                          obtain ⟨e1, e2⟩ := hle
                          have hq0 : (0 : Int) ≤ (q : Int) := by omega
                          have hlg := HL.out.lt.2
                          clear hq r1
                          generalize hv : (hist zs (PM.size ⟨s, l, t, c, d⟩).toNat k).getD q 0 = v at *
                          clear hv
                          have hroom := HL.out.room
                          unfold maxLen at hroom
                          obtain ⟨p1, p2⟩ := hroom
                          clear hNn
                          go_wp2
                          go_roundw
                          case rel =>
                            refine ⟨k + 1, by omega, by go_num, ?_, HL.out.far (by show w2.heap.size ≠ g; have := HW.out.2.1; have := HW.out.2.2.1; omega) _, ?_, ?_⟩
                            · rw [HS.out]
                              exact HH.out.store q _
                            · have h1 := HM.out
                              unfold MapAt at h1 ⊢
                              rw [Below.heap_setCell _ _ _ _ (by show w1.heap.size ≠ w2.heap.size; exact Nat.ne_of_lt HMH.out)]
                              exact h1
                            · exact HB.out.setCell (by show w.heap.size ≤ w2.heap.size; exact HWH.out) _
                          case measure => simp [intOf]; omega
                        · obtain rfl : k = zs.length := by omega
                          have hroom := HL.out.room
                          unfold maxLen at hroom
                          obtain ⟨p1, p2⟩ := hroom
                          clear HIN
                          have HH1 : Hid (∀ j : Nat, (j : Int) < PM.size ⟨s, l, t, c, d⟩ → (hist zs (PM.size ⟨s, l, t, c, d⟩).toNat zs.length).getD j 0 = 1) := hid (fun j hj => by
                            rw [hist_at _ _ _ _ (by omega), List.take_length, HCA.out, if_pos ⟨by omega, hj⟩]
                            rfl)
                          have HHH := hid HH.out
                          clear HH HCA HW HL
                          obtain ⟨m0, m1, m2, m3, m4, m5⟩ := HM.out.facts
                          go_wp2
                          go_loop [16] (fun i => ∃ j : Nat, (j : Int) ≤ PM.size ⟨s, l, t, c, d⟩ ∧ i = .int .i64 j) (fun i => (PM.size ⟨s, l, t, c, d⟩).toNat - (intOf i).toNat)
                          case atStart => exact ⟨0, by omega, rfl⟩
                          case round =>
                            obtain ⟨j, hj, rfl⟩ := hrel
                            by_cases hlt2 : (j : Int) < PM.size ⟨s, l, t, c, d⟩
                            · have cj := HHH.out.cell (i := j) (by rw [hist_len]; omega)
                              rw [HH1.out j hlt2] at cj
                              have hj3 : j < (PM.size ⟨s, l, t, c, d⟩).toNat := by omega
                              go_wp2
                              go_round
                              case rel => exact ⟨j + 1, by omega, by go_num⟩
                              case measure => simp [intOf]; omega
                            · have hnn : ((zs.length : Int) == PM.size ⟨s, l, t, c, d⟩) = true := by simpa using hNn
                              go_wp2_with (go_at_call 34; refine (told_any _).mono ?_; rintro e w6 ⟨rfl, hb6⟩; have HB6 := hid hb6; clear hb6)
                              go_ret
                              exact ⟨rfl, bthen HB.out HB6.out⟩

end Go.Proofs.YtjekhjjighbfaaaDoor
