/-
  MemSwaps, its walk.
-/
import Derived.Test.YtaecjlpjcecgmaaTold
import Derived.Maps.AppendAt
namespace Go.Proofs.Ytaecjlpjcecgmaa
open Go.RowKit

/-- What stands at the one word behind k Swaps. -/
def swWord (old : Int) (zs : List Int) (k : Nat) : Int := if k = 0 then old else zs.getD 0 0

def SwAt (w : World) (b : Nat) (vw : Value) (old : Int) (zs : List Int) (k : Nat) (wr : World) : Prop :=
  (∃ s, Mem wr w.heap.size b vw s ∧ s.zs = [swWord old zs k] ∧ s.steps = (k : Int)) ∧ Below w.heap.size w wr ∧ (0 < k → zs.getD 0 0 ≠ old)

theorem SwAt.told {w wr w3 : World} {b : Nat} {vw : Value} {old : Int} {zs : List Int} {k : Nat} (h : SwAt w b vw old zs k wr) (hb : Below wr.heap.size wr w3) : SwAt w b vw old zs k w3 := by
  obtain ⟨⟨s, hm, hz, hs⟩, hbw, hn⟩ := h
  exact ⟨⟨s, hm.kept (Wrote.of_below hb (fun _ => False)) (fun _ _ h => h), hz, hs⟩, hbw.trans (hb.mono hbw.size), hn⟩

theorem new_second (w : World) (o : Obj) (v : Value) (E : TypeId) : ∀ j u, [v][j]? = some u → ((w.alloc o).alloc (.cells #[v] E)).cell? ((⟨w.heap.size + 1, 0, none⟩ : Addr).add j) = some u := by
  have h := cell_one_new (w.alloc o) v E
  rw [World.size_alloc] at h
  exact h

theorem sw_head {old : Int} {zs : List Int} {k : Nat} (hk : zs.length = k) : ([] ++ zs.map (Value.int .i64) ++ [Value.int .i64 old])[0]? = some (.int .i64 (swWord old zs k)) := by
  subst hk
  cases zs with
  | nil => simp [swWord]
  | cons z zs => simp [swWord]

theorem sw_steps {w wr : World} {b : Nat} {vw : Value} {old : Int} {zs : List Int} {k : Nat} (h : SwAt w b vw old zs k wr) :
    Calls Try.prog 13 #[.pointer (some ⟨b, 0, none⟩)] wr fun e w' => e = .returned (.int .i64 k) ∧ wr = w' := by
  obtain ⟨⟨s, hm, hz, hs⟩, hbw, hn⟩ := h
  rw [← hs]
  exact Steps_any wr _ b vw s hm

theorem sw_peek {w wr : World} {b : Nat} {vw : Value} {old : Int} {zs : List Int} {k : Nat} (h : SwAt w b vw old zs k wr) :
    Calls Try.prog 17 #[.pointer (some ⟨b, 0, none⟩), .int .i64 0] wr fun e w' => e = .returned (.int .i64 (swWord old zs k)) ∧ wr = w' := by
  obtain ⟨⟨s, hm, hz, hs⟩, hbw, hn⟩ := h
  refine (Peek_in 0 wr _ b vw s hm (by decide) (by simp [hz])).mono ?_
  rintro e w' ⟨he, hw⟩
  exact ⟨by rw [he, hz]; rfl, hw⟩

theorem swap_first {w wr : World} {b : Nat} {vw : Value} {old v : Int} {zs : List Int} (h : SwAt w b vw old zs 0 wr) (hv : zs.getD 0 0 = v) (hne : v ≠ old) :
    Calls Try.prog 16 #[.pointer (some ⟨b, 0, none⟩), .int .i64 0, .int .i64 old, .int .i64 v] wr fun e w' => e = .returned (.tuple #[.int .i64 old, .bool true, .int .i64 0]) ∧ SwAt w b vw old zs 1 w' := by
  obtain ⟨⟨s, hm, hz, hs⟩, hb, _⟩ := h
  refine (Swap_yes 0 old v wr _ b vw s hm (by decide) (by simp [hz]) (by simp [hz, swWord])).mono ?_
  rintro e w' ⟨he, hm', hw⟩
  refine ⟨he, ⟨_, hm', ?_, ?_⟩, hb.trans (hw.below hb.size hm.old), fun _ => by rw [hv]; exact hne⟩
  · simp [MS.acc, MS.put, hz, swWord, ← hv]
  · simp only [MS.acc, MS.put, hs]; decide +kernel

theorem swap_later {w wr : World} {b : Nat} {vw : Value} {old v : Int} {zs : List Int} {k : Nat} (h : SwAt w b vw old zs k wr) (hk : 0 < k) (hk2 : k ≤ 40) :
    Calls Try.prog 16 #[.pointer (some ⟨b, 0, none⟩), .int .i64 0, .int .i64 old, .int .i64 v] wr fun e w' => e = .returned (.tuple #[.int .i64 (zs.getD 0 0), .bool false, .int .i64 0]) ∧ SwAt w b vw old zs (k + 1) w' := by
  obtain ⟨⟨s, hm, hz, hs⟩, hb, hn⟩ := h
  have hz0 : s.zs.getD (Int.toNat 0) 0 = zs.getD 0 0 := by rw [hz, swWord, if_neg (by omega)]; rfl
  refine (Swap_no 0 old v wr _ b vw s hm (by decide) (by simp [hz]) (by rw [hz0]; exact hn hk)).mono ?_
  rintro e w' ⟨he, hm', hw⟩
  rw [hz0] at he
  refine ⟨he, ⟨_, hm', ?_, ?_⟩, hb.trans (hw.below hb.size hm.old), fun _ => hn hk⟩
  · simp only [MS.acc, hz, swWord]; rw [if_neg (by omega), if_neg (by omega)]
  · simp only [MS.acc, hs]; rw [IntWalk.wrap64_in _ (by omega)]; omega

set_option maxHeartbeats 1000000 in
theorem swaps_long (old : Int) (a : Option Addr) (len cap : Nat) (w : World) (hl : 40 < len) (hm : len ≤ maxLen) :
    Calls Try.prog 4 #[.int .i64 old, .slice a len cap] w fun e w' => e = .returned (.bool true) ∧ Below w.heap.size w w' := by
  unfold maxLen at hm
  go_enter Try.func4, Try.ntmps4
  go_wp2_with (go_at_call 9; refine (told_any _).mono ?_; rintro e w3 ⟨rfl, hb3⟩)
  go_ret
  exact ⟨rfl, hb3⟩

set_option maxHeartbeats 1000000 in
theorem swaps_short (old : Int) (a : Option Addr) (len cap : Nat) (zs : List Int) (w : World) (h : IntRow w a len zs) (hl : len ≤ 40) (hcap : a = none → cap = 0) :
    Calls Try.prog 4 #[.int .i64 old, .slice a len cap] w fun e w' => e = .returned (.bool true) ∧ Below w.heap.size w w' := by
  have H := hid h
  have Hcap := hid hcap
  clear h hcap
  have HR := hid (IntRow.lit [old] 2 w #[.int .i64 old] rfl 1 rfl)
  go_enter Try.func4, Try.ntmps4
  go_wp2_with (go_at_call 10; refine (New_any _ _ _ [old] _ HR.out (by decide)).mono ?_; rintro e w1 ⟨b, vw, rfl, hm, hb⟩; have HM := hid hm; clear hm)
  have HS : Hid (SwAt w b vw old zs 0 w1) := hid ⟨⟨_, HM.out.mono (by simp), rfl, rfl⟩, ((Below.refl _ w).alloc (Nat.le_refl _) _).trans (hb.mono (by simp)), by omega⟩
  clear hb
  go_loopw [6, 7] (fun n i wr => ∃ k : Nat, k ≤ len ∧ i = .int .i64 k ∧ n = .int .i64 ((min k 1 : Nat) : Int) ∧ SwAt w b vw old zs k wr) (fun _ i _ => len - (intOf i).toNat)
  case atStart => exact ⟨0, Nat.zero_le _, rfl, rfl, HS.out⟩
  case round =>
    obtain ⟨k, hk, rfl, rfl, hsw⟩ := hrel
    have HW := hid hsw
    clear hsw
    by_cases hlt : k < len
    · obtain ⟨b0, off, rfl, hb0, hc⟩ := H.out.at (by omega)
      have HC := hid hc
      clear hc
      have ck : wr.cell? ⟨b0, off + k, none⟩ = some (.int .i64 (zs.getD k 0)) := (HW.out.2.1.cell hb0).trans (HC.out k hlt)
      generalize hv : zs.getD k 0 = v at ck
      have Hv := hid hv
      clear hv
      by_cases hold : v = old
      · have hold' : (v == old) = true := by simpa using hold
        clear hold
        go_wp2_with (go_at_call 9; refine (told_any _).mono ?_; rintro e w3 ⟨rfl, hb3⟩)
        go_ret
        exact ⟨rfl, HW.out.2.1.trans (hb3.mono HW.out.2.1.size)⟩
      · have hold' : (v == old) = false := by simpa using hold
        have Hold := hid hold
        clear hold
        by_cases hk0 : k = 0
        · subst hk0
          have ck0 : wr.cell? ⟨b0, off, none⟩ = some (.int .i64 v) := ck
          clear ck
          go_wp2_with (go_at_call 16; refine (swap_first HW.out Hv.out Hold.out).mono ?_; rintro e w' ⟨rfl, hsw'⟩; have HW' := hid hsw'; clear hsw')
          go_roundw
          case rel => exact ⟨1, by omega, by go_num, by go_num, HW'.out⟩
          case measure => simp [intOf]; omega
        · have hk0' : ((k : Int) == 0) = false := by simpa using hk0
          have hkp : 0 < k := by omega
          have Hk0 := hid hk0
          clear hk0
          go_wp2_with (go_at_call 16; refine (swap_later HW.out hkp (by omega)).mono ?_; rintro e w' ⟨rfl, hsw'⟩; have HW' := hid hsw'; clear hsw'; have c0 : w'.cell? ⟨b0, off, none⟩ = some (.int .i64 (zs.getD 0 0)) := (HW'.out.2.1.cell hb0).trans (HC.out 0 (by omega)))
          go_roundw
          case rel => exact ⟨k + 1, by omega, by go_num, by rw [show min (k + 1) 1 = min k 1 by omega], HW'.out⟩
          case measure => simp [intOf]; omega
    · obtain rfl : k = len := by omega
      clear hlt hk
      obtain ⟨i0, hi, hz0, hz1, hz2⟩ := info_parts infoE
      have hlen := H.out.1
      rcases H.out.2 with ⟨rfl, rfl⟩ | ⟨x, rfl, hc⟩
      · have ez := List.length_eq_zero_iff.1 hlen
        subst ez
        obtain rfl := Hcap.out rfl
        have E6 : Hid (0 + 0 + 1 ≤ maxLen) := hid (by unfold maxLen; omega)
        have E7 : Hid ((0 + 0 + 1) * 8 ≤ 140737488355328) := hid (by omega)
        clear hlen
        rw [show min 0 1 = 0 by omega]
        go_wp2_with (first | (go_at_call 9; refine (told_any _).mono ?_; rintro e w3 ⟨rfl, hb3⟩; have HW3 := hid (HW.out.told hb3); have HO5 := hid (World.ownsRow_lit (e := 2) (size := 1) w3 #[] 0 (Nat.le_refl _) (Nat.zero_le _) rfl); have HB5 : Hid (Below w.heap.size w (w3.alloc (.cells #[] 2))) := hid (HW3.out.2.1.alloc HW3.out.2.1.size _); have HNW := hid (new_second w3 (.cells #[] 2) (.int .i64 old) 2); have E8 : Hid (w3.heap.size ≤ ((w3.alloc (.cells #[] 2)).alloc (.cells #[.int .i64 old] 2)).heap.size) := hid (by simp; omega)) | (go_at_call 13; refine (sw_steps HW3.out).mono ?_; rintro e w' ⟨rfl, rfl⟩) | (go_at_call 17; refine (sw_peek HW3.out).mono ?_; rintro e w' ⟨rfl, rfl⟩) | (at_builtin; refine wpList_yes rfl ?_; refine wpList_append_own_none rfl (.tmp 92) (.tmp 93) 22 rfl w3.heap.size 2 i0 1 Try.underlying22 hi (.slice (some ⟨w3.heap.size, 0, none⟩) 0 0) 0 [] rfl (World.ownsRow_lit w3 #[] 0 (Nat.le_refl _) (Nat.zero_le _) rfl) rfl ?_) | (at_builtin; refine wpList_yes rfl ?_; go_must (refine wpList_append_own _ rfl (.tmp 94) (.tmp 96) 22 rfl w3.heap.size 2 i0 (.int .i64 0) 1 8 Try.underlying22 hi hz0 hz1 hz2 rfl (by decide) (.slice (some ⟨w3.heap.size, 0, none⟩) 0 0) 0 [] rfl (HO5.out.alloc _) ⟨w3.heap.size + 1, 0, none⟩ 1 1 [.int .i64 old] rfl rfl HNW.out (ints_oneCell .i64 [old]) E6.out E7.out E8.out ?_); go_must (intro v2 w6 hown6 hgrow6 _; obtain ⟨g, c2, hv2, hg, hcell⟩ := own_head hown6 (Nat.succ_pos 0); rw [hv2]; rw [show ([] ++ [Value.int .i64 old])[0]? = some (.int .i64 (swWord old [] 0)) from rfl] at hcell; have HB6 : Hid (Below w.heap.size w w6) := hid ((HB5.out.alloc HB5.out.size _).grown hgrow6 (by have := HW3.out.2.1.size; have := HB5.out.size; simp; omega) (by intro q hq; have := ((HO5.out.alloc (.cells #[.int .i64 old] 2)).lt q hq).1; have := HW3.out.2.1.size; omega)); clear hown6 hgrow6 hv2)))
        go_ret
        exact ⟨rfl, HB6.out⟩
      · have HN := hid (fun W' hW => news_of (w' := W') hlen hc hW)
        have E1 : Hid ((zs.map (Value.int .i64)).length = k * 1) := hid (by simp [hlen])
        have E3 : Hid (0 + k ≤ maxLen) := hid (by unfold maxLen; omega)
        have E4 : Hid ((0 + k) * 8 ≤ 140737488355328) := hid (by omega)
        have E6 : Hid (0 + k + 1 ≤ maxLen) := hid (by unfold maxLen; omega)
        have E7 : Hid ((0 + k + 1) * 8 ≤ 140737488355328) := hid (by omega)
        have Hlen := hid hlen
        clear hc hlen
        obtain ⟨m, hmk⟩ : ∃ m, min k 1 = m := ⟨_, rfl⟩
        rw [hmk]
        have hmin : (if (1 : Int) < (k : Int) then (1 : Int) else (k : Int)) = (m : Int) := by split <;> omega
        clear hmk
        go_wp2_with (first | (go_at_call 9; refine (told_any _).mono ?_; rintro e w3 ⟨rfl, hb3⟩; have HW3 := hid (HW.out.told hb3); have E5 : Hid (w3.heap.size ≤ (w3.alloc (.cells #[] 2)).heap.size) := hid (by simp)) | (go_at_call 13; refine (sw_steps HW3.out).mono ?_; rintro e w' ⟨rfl, rfl⟩) | (go_at_call 17; refine (sw_peek HW3.out).mono ?_; rintro e w' ⟨rfl, rfl⟩) | (at_builtin; refine wpList_yes rfl ?_; (refine wpList_append_own _ rfl (.tmp 92) (.tmp 93) 22 rfl w3.heap.size 2 i0 (.int .i64 0) 1 8 Try.underlying22 hi hz0 hz1 hz2 rfl (by decide) (.slice (some ⟨w3.heap.size, 0, none⟩) 0 0) 0 [] rfl (World.ownsRow_lit w3 #[] 0 (Nat.le_refl _) (Nat.zero_le _) rfl) x k cap (zs.map (Value.int .i64)) rfl E1.out (HN.out _ (HW3.out.2.1.alloc HW3.out.2.1.size _)) (ints_oneCell _ _) E3.out E4.out E5.out ?_); (intro v1 w5 hown5 hgrow5 _; have HO5 := hid hown5; have HB5 : Hid (Below w.heap.size w w5) := hid ((HW3.out.2.1.alloc HW3.out.2.1.size _).grown hgrow5 (by simpa using Nat.le_succ_of_le HW3.out.2.1.size) (by intro q hq; simp [Value.ownBlock] at hq; have := HW3.out.2.1.size; omega)); have E8 : Hid (w3.heap.size ≤ (w5.alloc (.cells #[.int .i64 old] 2)).heap.size) := hid (by have := hgrow5.size; simp at this ⊢; omega); clear hown5 hgrow5)) | (at_builtin; refine wpList_yes rfl ?_; go_must (refine wpList_append_own _ rfl (.tmp 94) (.tmp 96) 22 rfl w3.heap.size 2 i0 (.int .i64 0) 1 8 Try.underlying22 hi hz0 hz1 hz2 rfl (by decide) v1 (0 + k) _ rfl (HO5.out.alloc _) ⟨w5.heap.size, 0, none⟩ 1 1 [.int .i64 old] rfl rfl (cell_one_new _ _ _) (ints_oneCell .i64 [old]) E6.out E7.out E8.out ?_); go_must (intro v2 w6 hown6 hgrow6 _; obtain ⟨g, c2, hv2, hg, hcell⟩ := own_head hown6 (Nat.succ_pos _); rw [hv2]; rw [sw_head Hlen.out] at hcell; have HB6 : Hid (Below w.heap.size w w6) := hid ((HB5.out.alloc HB5.out.size _).grown hgrow6 (by have := HW3.out.2.1.size; have := HB5.out.size; simp; omega) (by intro q hq; have := ((HO5.out.alloc (.cells #[.int .i64 old] 2)).lt q hq).1; have := HW3.out.2.1.size; omega)); clear hown6 hgrow6 hv2)))
        go_ret
        exact ⟨rfl, HB6.out⟩

theorem swaps_walk (old : Int) (a : Option Addr) (len cap : Nat) (zs : List Int) (w : World) (h : (a = none ∧ len = 0 ∧ cap = 0 ∧ zs = []) ∨
    ∃ x, a = some x ∧ len ≤ cap ∧ cap ≤ maxLen ∧ zs.length = cap ∧ (∀ i, i < zs.length → w.cell? (x.add i) = some (.int .i64 (zs.getD i 0))) ∧ ∀ n ∈ zs, (Lit.int .i64 n).wf = true) :
    Calls Try.prog 4 #[.int .i64 old, .slice a len cap] w fun e w' => e = .returned (.bool true) ∧ Below w.heap.size w w' := by
  obtain ⟨h1, h2, _, h4⟩ := IntRow.of_in h
  by_cases hl : len ≤ 40
  · exact swaps_short old a len cap _ w h1 hl h4
  · exact swaps_long old a len cap w (by omega) h2

end Go.Proofs.Ytaecjlpjcecgmaa
