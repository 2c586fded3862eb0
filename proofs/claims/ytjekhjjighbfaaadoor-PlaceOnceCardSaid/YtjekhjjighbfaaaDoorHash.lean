/-
  PlaceHash, its walk.
-/
import Derived.Test.YtjekhjjighbfaaaDoorGrows
import Derived.Test.YtjekhjjighbfaaaDoorInts
namespace Go.Proofs.YtjekhjjighbfaaaDoor
open Go.RowKit
attribute [local go_sem] Later.cell Later.frozen

theorem infoInt : (Tryd.prog.info? 3).map (fun i => (i.zero, i.size, i.bytes)) = some (some (.int .i64 0), 1, 8) := by kernel_rfl

/-- What has been counted behind i places. -/
structure Tally (s : Int) (i : Nat) (zs : List Int) : Prop where
  len : (zs.length : Int) = s
  low : ∀ j, j < zs.length → 0 ≤ zs.getD j 0 ∧ zs.getD j 0 ≤ i
  hit : ∀ j, j < zs.length → j < i → 1 ≤ zs.getD j 0

theorem getD_set (zs : List Int) (q j : Nat) (v : Int) : (zs.set q v).getD j 0 = if q = j ∧ j < zs.length then v else zs.getD j 0 := by
  simp only [List.getD_eq_getElem?_getD, List.getElem?_set]
  by_cases h : q = j
  · subst h
    by_cases h2 : q < zs.length
    · simp [h2]
    · simp [h2]
  · simp [h]

theorem Tally.start (s : Int) (hs : 1 ≤ s) : Tally s 0 (List.replicate s.toNat 0) :=
  ⟨by simp; omega, fun j hj => by simp at hj; simp [hj], fun j _ h => by omega⟩

theorem Tally.step {s : Int} {i : Nat} {zs : List Int} (h : Tally s i zs) (q : Nat) (hq : q < zs.length) (hsame : i < zs.length → q = i) : Tally s (i + 1) (zs.set q (zs.getD q 0 + 1)) := by
  refine ⟨by rw [List.length_set]; exact h.len, fun j hj => ?_, fun j hj hji => ?_⟩
  · rw [List.length_set] at hj
    rw [getD_set]
    have := h.low j hj
    have := h.low q hq
    split <;> omega
  · rw [List.length_set] at hj
    rw [getD_set]
    have h1 := h.low q hq
    split
    · omega
    · rename_i hne
      by_cases hj2 : j < i
      · exact h.hit j hj hj2
      · have := hsame (by omega)
        exfalso
        exact hne ⟨by omega, hj⟩

theorem PM.hash_in {m : PM} (h : m.Ok) (n : Nat) (hn : (n : Int) < m.size) : ∃ q : Nat, m.hash n = q ∧ (q : Int) < m.s ∧ ((n : Int) < m.s → q = n) := by
  have hs1 := h.s1
  have hs2 := h.s2
  refine ⟨(n ^^^ (n >>> 4)) % m.s.toNat, ?_, ?_, fun hlt => ?_⟩
  · unfold PM.hash
    rw [if_pos ⟨h, by omega, hn⟩, Int.toNat_natCast]
  · have := Nat.mod_lt (n ^^^ (n >>> 4)) (show 0 < m.s.toNat by omega)
    omega
  · have e : n >>> 4 = 0 := by rw [Nat.shiftRight_eq_div_pow]; omega
    rw [e, Nat.xor_zero]
    exact Nat.mod_eq_of_lt (by omega)
theorem PM.hash_out {m : PM} (a : Int) (ha : a < 0 ∨ m.size ≤ a) : m.hash a = -1 := by
  unfold PM.hash
  rw [if_neg]
  rintro ⟨_, h1, h2⟩
  omega

set_option maxHeartbeats 2000000 in
theorem hash_walk (k0 k1 k2 k3 k4 : Int) (w : World) :
    Calls Tryd.prog 6 #[.agg #[.int .i64 k0, .int .i64 k1, .int .i64 k2, .int .i64 k3, .int .i64 k4]] w fun e w' => e = .returned (.bool true) ∧ Below w.heap.size w w' := by
  obtain ⟨i0, hi, hz0, hz1, hz2⟩ := info_parts infoInt
  go_enter Tryd.func6, Tryd.ntmps6
  go_wp2_with (go_at_call 8; refine (Near_ex _ _ _ _ _ _).mono ?_; rintro e w1 ⟨⟨s, l, t, c, d, hok, rfl⟩, hb1⟩; have HOK := hid hok; obtain ⟨s1, s2, l1, l2, t1, t2, c1, c2, d1, d2⟩ := hok; obtain ⟨hc1, hf1, hz1⟩ := bcell hb1 (size_alloc1 _ _); have HB1 := hid hb1; clear hb1)
  have hsz := PM.size_bounds HOK.out
  obtain ⟨z1, z2⟩ := hsz
  have E1 : Hid (s = ((s.toNat : Nat) : Int)) := hid (by omega)
  have E2 : Hid (i0.bytes * s.toNat ≤ 281474976710656) := hid (by rw [hz2]; omega)
  have E3 : Hid (s.toNat ≤ maxLen) := hid (by unfold maxLen; omega)
  go_wp2_with (first | (go_at_call 10; refine (Size_any ⟨s, l, t, c, d⟩ _).mono ?_; rintro e w2 ⟨rfl, hb2⟩; have HM := hid ((MapAt.new 24 w1 ⟨s, l, t, c, d⟩).below hb2); have HB2 := hid (bthen (bnew (bthen (bnew (bid w) _) HB1.out) _) hb2); clear hb2 HB1 hc1 hf1 hz1; obtain ⟨m0, m1, m2, m3, m4, m5⟩ := HM.out.facts) | (at_make; refine wpList_make_full _ rfl _ _ 32 rfl w2.heap.size 3 i0 (.int .i64 0) 1 Tryd.underlying32 hi hz0 hz1 .i64 .i64 _ _ s.toNat rfl rfl E1.out E1.out E2.out E3.out (Nat.le_refl _) ?_; intro w3 hown hg1; have HI := hid (Ints.made hown); clear hown))
  have hb3 : Below w2.heap.size w2 w3 := (Below.refl _ _).grown hg1 (Nat.le_refl _) (by simp)
  have HS : Hid (∃ zs, Tally s 0 zs ∧ Ints 3 w3 w2.heap.size w2.heap.size s.toNat zs ∧ MapAt 24 w3 w1.heap.size ⟨s, l, t, c, d⟩ ∧ Below w.heap.size w w3) := hid ⟨_, Tally.start s s1, HI.out, HM.out.below hb3, bthen HB2.out hb3⟩
  have hne0 := m5
  have HNE := hid (show w1.heap.size ≠ w2.heap.size by omega)
  have HBs := hid HB2.out.size
  clear HI hg1 hb3 HB2 HM m0 m1 m2 m3 m4 m5
  go_loopw [6] (fun i wr => ∃ n : Nat, (n : Int) ≤ PM.size ⟨s, l, t, c, d⟩ ∧ i = .int .i64 n ∧ ∃ zs, Tally s n zs ∧ Ints 3 wr w2.heap.size w2.heap.size s.toNat zs ∧ MapAt 24 wr w1.heap.size ⟨s, l, t, c, d⟩ ∧ Below w.heap.size w wr) (fun i _ => (PM.size ⟨s, l, t, c, d⟩).toNat - (intOf i).toNat)
  case atStart => exact ⟨0, by omega, rfl, HS.out⟩
  case round =>
    clear HS
    obtain ⟨n, hn, rfl, zs, ht, hi2, hm, hb⟩ := hrel
    have HT := hid ht
    have HI := hid hi2
    have HM := hid hm
    have HB := hid hb
    clear ht hi2 hm hb
    by_cases hlt : (n : Int) < PM.size ⟨s, l, t, c, d⟩
    · obtain ⟨m0, m1, m2, m3, m4, m5⟩ := HM.out.facts
      obtain ⟨q, hq, hqs, hqn⟩ := PM.hash_in HOK.out n hlt
      have hlen := HT.out.len
      have hq2 : q < zs.length := by have : (q : Int) < s := hqs; omega
      have hqs2 : (q : Int) < s := hqs
      have hq3 : q < s.toNat := by omega
      have cq := HI.out.cell hq2
      have fq := HI.out.frozen q
      have hlow := HT.out.low q hq2
      obtain ⟨w5, w6⟩ := hlow
      have hg2 := HI.out.lt.2
      have HQ := hid hqn
      have HH := hid (fun W => Hash_any ⟨s, l, t, c, d⟩ n W)
      rw [hq] at HH
      have HT2 := hid (HT.out.step q hq2 (fun h => hqn (by show (n : Int) < s; omega)))
      clear hq hqn hqs
      generalize hz : zs.getD q 0 = z at cq w5 w6 HT2
      have HZ := hid hz
      clear hz
      go_wp2_with (go_at_call 21; refine (HH.out _).mono ?_; rintro e w4 ⟨rfl, hb4⟩; obtain ⟨hc4, hf4, hz4⟩ := bcell hb4 rfl; have HB4 := hid hb4; clear hb4)
      go_roundw
      case rel =>
        refine ⟨n + 1, by omega, by go_num, _, HT2.out, (HI.out.below HB4.out).store q _, ?_, ?_⟩
        · have h1 := HM.out.below HB4.out
          unfold MapAt at h1 ⊢
          rw [Below.heap_setCell _ _ _ _ (by exact HNE.out)]
          exact h1
        · exact (bthen HB.out HB4.out).setCell (by show w.heap.size ≤ w2.heap.size; exact HBs.out) _
      case measure => simp [intOf]; omega
    · have hlen := HT.out.len
      have hbig : ∀ j, j < zs.length → 1 ≤ zs.getD j 0 := fun j hj => HT.out.hit j hj (by have := PM.size_ok HOK.out; have hf := HOK.out; simp only [PM.from_] at this; have h2 := (PM.tl hf).1; simp only at h2; omega)
      have HBG := hid hbig
      have HS : Hid (Ints 3 wr w2.heap.size w2.heap.size s.toNat zs ∧ MapAt 24 wr w1.heap.size ⟨s, l, t, c, d⟩ ∧ Below w.heap.size w wr) := hid ⟨HI.out, HM.out, HB.out⟩
      obtain ⟨m0, m1, m2, m3, m4, m5⟩ := HM.out.facts
      have hg2 := HI.out.lt.2
      clear hbig HT HI HM HB
      go_wp2_with fail
      go_loop [8] (fun i => ∃ j : Nat, (j : Int) ≤ s ∧ i = .int .i64 j) (fun i => s.toNat - (intOf i).toNat)
      case atStart => exact ⟨0, by omega, rfl⟩
      case round =>
        obtain ⟨j, hj, rfl⟩ := hrel
        by_cases hlt2 : (j : Int) < s
        · have cj := HS.out.1.cell (i := j) (by omega)
          have hb1 := HBG.out j (by omega)
          generalize zs.getD j 0 = z at cj hb1
          have hz : (z == 0) = false := by simp; omega
          have hj3 : j < s.toNat := by omega
          go_wp2_with fail
          go_round
          case rel => exact ⟨j + 1, by omega, by go_num⟩
          case measure => simp [intOf]; omega
        · have HO1 := hid (PM.hash_out (m := ⟨s, l, t, c, d⟩) (-1) (.inl (by decide)))
          have HO2 := hid (PM.hash_out (m := ⟨s, l, t, c, d⟩) (PM.size ⟨s, l, t, c, d⟩) (.inr (Int.le_refl _)))
          go_wp2_with (first | (go_at_call 34; refine (told_any _).mono ?_; rintro e w6 ⟨rfl, hb6⟩; obtain ⟨hc6, hf6, hz6⟩ := bcell hb6 rfl; have hz7 : w1.heap.size < w6.heap.size := Nat.lt_of_lt_of_le m5 hz6; have HB6 := hid hb6; clear hb6) | (go_at_call 21; first | ((with_reducible refine (Hash_any ⟨s, l, t, c, d⟩ (-1) _).mono ?_); rw [HO1.out]; rintro e w7 ⟨rfl, hb7⟩; obtain ⟨hc7, hf7, hz7⟩ := bcell hb7 rfl; have HB7 := hid hb7; clear hb7) | ((with_reducible refine (Hash_any ⟨s, l, t, c, d⟩ (PM.size ⟨s, l, t, c, d⟩) _).mono ?_); rw [HO2.out]; rintro e w8 ⟨rfl, hb8⟩; have HB8 := hid hb8; clear hb8)))
          go_ret
          exact ⟨rfl, bthen (bthen (bthen HS.out.2.2 HB6.out) HB7.out) HB8.out⟩

end Go.Proofs.YtjekhjjighbfaaaDoor
