/-
  MemAsks, its walk.
-/
import Derived.Test.YtaecjlpjcecgmaaDo
import Derived.Test.YtaecjlpjcecgmaaRange
namespace Go.Proofs.Ytaecjlpjcecgmaa
open Go.RowKit

/-- A slice of accesses: nil, or a row of cells, four to an access. -/
def OpRow (w : World) (a : Option Addr) (len : Nat) : Prop :=
  (a = none ∧ len = 0) ∨ ∃ x : Addr, a = some x ∧ ∀ i, i < len → ∃ k p u v : Int, w.cell? (x.add (i * 4)) = some (.int .i64 k) ∧ w.cell? (x.add (i * 4 + 1)) = some (.int .i64 p) ∧
    w.cell? (x.add (i * 4 + 2)) = some (.int .i64 u) ∧ w.cell? (x.add (i * 4 + 3)) = some (.int .i64 v)

theorem OpRow.at {w : World} {a : Option Addr} {len : Nat} (h : OpRow w a len) (hl : 0 < len) :
    ∃ b off, a = some ⟨b, off, none⟩ ∧ b < w.heap.size ∧ ∀ i, i < len → ∃ k p u v : Int, w.cell? ⟨b, off + i * 4, none⟩ = some (.int .i64 k) ∧ w.cell? ⟨b, off + (i * 4 + 1), none⟩ = some (.int .i64 p) ∧
      w.cell? ⟨b, off + (i * 4 + 2), none⟩ = some (.int .i64 u) ∧ w.cell? ⟨b, off + (i * 4 + 3), none⟩ = some (.int .i64 v) := by
  rcases h with ⟨_, h0⟩ | ⟨⟨b, off, sp⟩, rfl, hc⟩
  · omega
  · obtain ⟨k, p, u, v, h0, _⟩ := hc 0 hl
    rw [Nat.zero_mul, add_zero] at h0
    have hsp : sp = none := by
      cases sp with
      | none => rfl
      | some q => simp only [World.cell?] at h0; split at h0 <;> simp at h0
    subst hsp
    refine ⟨b, off, rfl, World.block_lt_of_cell? w _ h0, fun i hi => ?_⟩
    obtain ⟨k, p, u, v, h1, h2, h3, h4⟩ := hc i hi
    simp only [add_at] at h1 h2 h3 h4
    exact ⟨k, p, u, v, h1, h2, h3, h4⟩

set_option maxHeartbeats 1000000 in
theorem asks_long (a : Option Addr) (len cap : Nat) (c : Option Addr) (n cn : Nat) (w : World) (hl : 40 < len ∨ len ≤ 40 ∧ 100 < n) (hm : len ≤ maxLen) (hn : n ≤ maxLen) :
    Calls Try.prog 3 #[.slice a len cap, .slice c n cn] w fun e w' => e = .returned (.bool true) ∧ Below w.heap.size w w' := by
  unfold maxLen at hm hn
  rcases hl with hl | ⟨hl, hl2⟩
  · have h0 : decide ((40 : Int) < (len : Int)) = true := by simp; omega
    go_enter Try.func3, Try.ntmps3
    go_wp2_with (go_at_call 9; refine (told_any _).mono ?_; rintro e w3 ⟨rfl, hb3⟩)
    go_ret
    exact ⟨rfl, hb3⟩
  · have h0 : decide ((40 : Int) < (len : Int)) = false := by simp; omega
    have h1 : decide ((100 : Int) < (n : Int)) = true := by simp; omega
    go_enter Try.func3, Try.ntmps3
    go_wp2_with (go_at_call 9; refine (told_any _).mono ?_; rintro e w3 ⟨rfl, hb3⟩)
    go_ret
    exact ⟨rfl, hb3⟩

/-- What holds behind k accesses. -/
def AskAt (w : World) (b : Nat) (vw : Value) (c : Nat) (vr : Value) (L : Nat) (wr : World) : Prop :=
  (∃ s, Pair wr w.heap.size b vw c vr s s ∧ s.zs.length = L) ∧ Below w.heap.size w wr

theorem AskAt.told {w wr w3 : World} {b : Nat} {vw : Value} {c : Nat} {vr : Value} {L : Nat} (h : AskAt w b vw c vr L wr) (hb : Below wr.heap.size wr w3) : AskAt w b vw c vr L w3 := by
  obtain ⟨⟨s, hp, hs⟩, hw⟩ := h
  exact ⟨⟨s, hp.below hb, hs⟩, hw.trans (hb.mono hw.size)⟩

/-- Behind an access: both alike, with what they hold at hand. -/
def AskDone (w : World) (b : Nat) (vw : Value) (c : Nat) (vr : Value) (L : Nat) (s : MS) (wr : World) : Prop :=
  Pair wr w.heap.size b vw c vr s s ∧ s.zs.length = L ∧ Below w.heap.size w wr

theorem ask_do {w wr : World} {b : Nat} {vw : Value} {c : Nat} {vr : Value} {L : Nat} (h : AskAt w b vw c vr L wr) (hl : L ≤ 40) (k p u v : Int) :
    Calls Try.prog 12 #[.pointer (some ⟨b, 0, none⟩), .pointer (some ⟨c, 0, none⟩), .agg #[.int .i64 k, .int .i64 p, .int .i64 u, .int .i64 v]] wr fun e w' => ∃ s, e = .returned (.bool true) ∧ AskDone w b vw c vr L s w' := by
  obtain ⟨⟨s, hp, hs⟩, hw⟩ := h
  subst hs
  refine (Do_any wr _ b vw c vr s hp hl k p u v).mono ?_
  rintro e w' ⟨s', he, hp', hs', hw'⟩
  exact ⟨s', he, hp', hs', hw.trans (hw'.below hw.size hp.old)⟩

theorem AskDone.at {w wr : World} {b : Nat} {vw : Value} {c : Nat} {vr : Value} {L : Nat} {s : MS} (h : AskDone w b vw c vr L s wr) : AskAt w b vw c vr L wr := ⟨⟨s, h.1, h.2.1⟩, h.2.2⟩
theorem AskDone.told {w wr w3 : World} {b : Nat} {vw : Value} {c : Nat} {vr : Value} {L : Nat} {s : MS} (h : AskDone w b vw c vr L s wr) (hb : Below wr.heap.size wr w3) : AskDone w b vw c vr L s w3 :=
  ⟨h.1.below hb, h.2.1, h.2.2.trans (hb.mono h.2.2.size)⟩

theorem ask_same {w wr : World} {b : Nat} {vw : Value} {c : Nat} {vr : Value} {L : Nat} (h : AskAt w b vw c vr L wr) (hl : L ≤ 40) :
    Calls Try.prog 15 #[.pointer (some ⟨b, 0, none⟩), .pointer (some ⟨c, 0, none⟩)] wr fun e w' => e = .returned (.bool true) ∧ Below w.heap.size w w' := by
  obtain ⟨⟨s, hp, hs⟩, hw⟩ := h
  refine (Same_yes wr _ b vw s _ c vr s hp.mem hp.ref rfl (by omega)).mono ?_
  rintro e w' ⟨he, hb⟩
  exact ⟨he, hw.trans (hb.mono hw.size)⟩

set_option maxHeartbeats 8000000 in
theorem asks_short (a : Option Addr) (len cap : Nat) (zs : List Int) (c : Option Addr) (n cn : Nat) (w : World) (h : IntRow w a len zs) (hl : len ≤ 40) (hcap : a = none → cap = 0) (ho : OpRow w c n) (hn : n ≤ 100) :
    Calls Try.prog 3 #[.slice a len cap, .slice c n cn] w fun e w' => e = .returned (.bool true) ∧ Below w.heap.size w w' := by
  have H := hid h
  have Hlen := hid h.1
  have Hcap := hid hcap
  have HO := hid ho
  clear h hcap ho
  have h0 : decide ((40 : Int) < (len : Int)) = false := by simp; omega
  have h1 : decide ((100 : Int) < (n : Int)) = false := by simp; omega
  go_enter Try.func3, Try.ntmps3
  go_wp2_with (first | (go_at_call 10; refine (New_any _ _ _ _ _ H.out (by omega)).mono ?_; rintro e w1 ⟨b, vw, rfl, hm, hb⟩; have HM := hid hm; have HB := hid hb; clear hm hb) | (go_at_call 11; refine (RefNew_any _ _ _ _ _ (H.out.below HB.out) (by omega) Hcap.out).mono ?_; rintro e w2 ⟨r, vr, rfl, hm, hb⟩; have HR := hid hm; have HB2 := hid hb; clear hm hb))
  have HS : Hid (AskAt w b vw r vr len w2) := hid ⟨⟨_, ⟨Mem.told HM.out HB2.out, HR.out.mono HB.out.size, fun k h1 h2 => by
    have hlt : k < w1.heap.size := by
      rcases h1 with rfl | h1
      · exact HM.out.lt
      · exact (HM.out.row.lt k h1).2
    exact HR.out.old k hlt h2⟩, Hlen.out⟩, HB.out.trans (HB2.out.mono HB.out.size)⟩
  clear HM HB HR HB2 H Hcap h0 h1
  go_loopw [7] (fun i wr => ∃ k : Nat, k ≤ n ∧ i = .int .i64 k ∧ AskAt w b vw r vr len wr) (fun i _ => n - (intOf i).toNat)
  case atStart => exact ⟨0, Nat.zero_le _, rfl, HS.out⟩
  case round =>
    clear HS
    obtain ⟨k, hk, rfl, hsw⟩ := hrel
    have HW := hid hsw
    clear hsw
    by_cases hlt : k < n
    · obtain ⟨b0, off, rfl, hb0, hc⟩ := HO.out.at (by omega)
      obtain ⟨q1, q2, q3, q4, c1, c2, c3, c4⟩ := hc k hlt
      clear hc
      have d1 := (HW.out.2.cell (p := ⟨b0, off + k * 4, none⟩) hb0).trans c1
      have d2 : wr.cell? ⟨b0, off + k * 4 + 1, none⟩ = _ := (HW.out.2.cell (p := ⟨b0, off + (k * 4 + 1), none⟩) hb0).trans c2
      have d3 : wr.cell? ⟨b0, off + k * 4 + 2, none⟩ = _ := (HW.out.2.cell (p := ⟨b0, off + (k * 4 + 2), none⟩) hb0).trans c3
      have d4 : wr.cell? ⟨b0, off + k * 4 + 3, none⟩ = _ := (HW.out.2.cell (p := ⟨b0, off + (k * 4 + 3), none⟩) hb0).trans c4
      clear c1 c2 c3 c4
      go_wp2_with fail
      go_region_with (first
        | (go_at_call 12; refine (ask_do (HW.out.told (Below.refl _ wr).drew) hl _ _ _ _).mono ?_; rintro e w4 ⟨s, rfl, hd⟩; have HD := hid hd; obtain ⟨⟨_, g1, g2, g3, g4, g5, g6⟩, _⟩ := hd.1.ref.facts; clear hd)
        | (go_at_call 13; refine (Steps_any _ _ _ _ _ HD.out.1.mem).mono ?_; rintro e w' ⟨rfl, rfl⟩)
        | (go_at_call 14; refine (Last_any _ _ _ _ _ HD.out.1.mem).mono ?_; rintro e w5 ⟨rfl, hb5⟩; have HD5 := hid (HD.out.told hb5); obtain ⟨⟨_, _, l2, l3, l4, l5, l6⟩, _⟩ := HD5.out.1.ref.facts; clear hb5))
      all_goals
        go_wp2
        go_roundw
        case rel => exact ⟨k + 1, by omega, by go_num, HD5.out.at⟩
        case measure => simp [intOf]; omega
    · obtain rfl : k = n := by omega
      go_wp2_with (first | (go_at_call 9; refine (told_any _).mono ?_; rintro e w3 ⟨rfl, hb3⟩) | (go_at_call 15; refine (ask_same (HW.out.told hb3) hl).mono ?_; rintro e w4 ⟨rfl, hb4⟩))
      go_ret
      exact ⟨rfl, hb4⟩

end Go.Proofs.Ytaecjlpjcecgmaa
