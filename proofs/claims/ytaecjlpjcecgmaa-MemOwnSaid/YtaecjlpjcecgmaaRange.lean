/-
  MemRange, its walk.
-/
import Derived.Test.YtaecjlpjcecgmaaRef
namespace Go.Proofs.Ytaecjlpjcecgmaa
open Go.RowKit

set_option maxHeartbeats 1000000 in
theorem range_long (a : Option Addr) (len cap : Nat) (i x y : Int) (w : World) (hl : 40 < len) (hm : len ≤ maxLen) :
    Calls Try.prog 6 #[.slice a len cap, .int .i64 i, .int .i64 x, .int .i64 y] w fun e w' => e = .returned (.bool true) ∧ Below w.heap.size w w' := by
  unfold maxLen at hm
  go_enter Try.func6, Try.ntmps6
  go_wp2_with (go_at_call 9; refine (told_any _).mono ?_; rintro e w3 ⟨rfl, hb3⟩)
  go_ret
  exact ⟨rfl, hb3⟩

theorem Mem.told {w w' : World} {B b : Nat} {vw : Value} {s : MS} (h : Mem w B b vw s) (hb : Below w.heap.size w w') : Mem w' B b vw s :=
  h.kept (Wrote.of_below hb (fun _ => False)) (fun _ _ h => h)

theorem last_told {w : World} {B b : Nat} {vw : Value} {s : MS} (h : Mem w B b vw s) (k a v o : Int) (d : Bool) (hk : s.kind = k) (ha : s.at_ = a) (hv : s.val = v) (ho : s.saw = o) (hd : s.done = d) :
    Calls Try.prog 14 #[.pointer (some ⟨b, 0, none⟩)] w fun e w' => e = .returned (.agg #[.int .i64 k, .int .i64 a, .int .i64 v, .int .i64 o, .bool d]) ∧ Below w.heap.size w w' := by
  subst hk ha hv ho hd
  exact Last_any w B b vw s h

set_option maxHeartbeats 1000000 in
theorem range_in (a : Option Addr) (len cap : Nat) (zs : List Int) (i x y : Int) (w : World) (h : IntRow w a len zs) (hl : len ≤ 40) (h0 : 0 ≤ i) (h1 : i < len) :
    Calls Try.prog 6 #[.slice a len cap, .int .i64 i, .int .i64 x, .int .i64 y] w fun e w' => e = .returned (.bool true) ∧ Below w.heap.size w w' := by
  have H := hid h
  have Hlen := hid h.1
  obtain ⟨b0, off, rfl, hb0, hc⟩ := h.at (by omega)
  have hci := hc i.toNat (by omega)
  generalize hz : zs.getD i.toNat 0 = z at hci
  have Hz := hid hz
  have Hci := hid hci
  clear h hc hz hci
  go_enter Try.func6, Try.ntmps6
  go_wp2_with (first | (go_at_call 10; refine (New_any _ _ _ _ _ H.out (by omega)).mono ?_; rintro e w1 ⟨b, vw, rfl, hm, hb⟩; have HM := hid hm; clear hm) | (go_at_call 19; refine (Load_in _ _ _ _ _ _ HM.out h0 (by rw [show (MS.new zs).zs.length = len from Hlen.out]; exact h1)).mono ?_; rintro e w2 ⟨he, hm, hw⟩; rw [show (MS.new zs).zs.getD i.toNat 0 = z from Hz.out] at he hm; rw [he]; have HM2 := hid hm; have hb2 := hid (hb.trans (hw.below hb.size HM.out.old)); clear hm he hw hb) | (go_at_call 9; refine (told_any _).mono ?_; rintro e w3 ⟨rfl, hb3⟩; have HM3 := hid (Mem.told HM2.out hb3); have HB3 := hid (hb2.out.trans (hb3.mono hb2.out.size)); have c3 := (HB3.out.cell (p := ⟨b0, off + i.toNat, none⟩) hb0).trans Hci.out; clear hb3) | (go_at_call 14; refine (last_told HM3.out 1 i z z true rfl rfl rfl rfl rfl).mono ?_; rintro e w4 ⟨rfl, hb4⟩))
  go_ret
  exact ⟨rfl, HB3.out.trans (hb4.mono HB3.out.size)⟩

theorem steps_told0 {w : World} {B b : Nat} {vw : Value} {s : MS} (h : Mem w B b vw s) (k : Int) (hk : s.steps = k) :
    Calls Try.prog 13 #[.pointer (some ⟨b, 0, none⟩)] w fun e w' => e = .returned (.int .i64 k) ∧ w = w' := by
  subst hk
  exact Steps_any w B b vw s h

set_option maxHeartbeats 1000000 in
theorem range_out (a : Option Addr) (len cap : Nat) (zs : List Int) (i x y : Int) (w : World) (h : IntRow w a len zs) (hl : len ≤ 40) (hcap : a = none → cap = 0) (ho : i < 0 ∨ (len : Int) ≤ i)
    (hd0 : decide ((0 : Int) ≤ i) = false ∨ decide ((0 : Int) ≤ i) = true ∧ decide (i < (len : Int)) = false) :
    Calls Try.prog 6 #[.slice a len cap, .int .i64 i, .int .i64 x, .int .i64 y] w fun e w' => e = .returned (.bool true) ∧ Below w.heap.size w w' := by
  have H := hid h
  have Hlen := hid h.1
  have Hcap := hid hcap
  have Ho : Hid (i < 0 ∨ ((MS.new zs).zs.length : Int) ≤ i) := hid (by rw [show (MS.new zs).zs.length = len from h.1]; exact ho)
  clear h hcap ho
  have HR : Hid (∀ w', Below w.heap.size w w' → IntRow w' a len zs) := hid (fun w' hb => H.out.below hb)
  rcases hd0 with hd0 | ⟨hd0, hd1⟩
  all_goals
    go_enter Try.func6, Try.ntmps6
    go_wp2_with (first | (go_at_call 10; refine (New_any _ _ _ _ _ H.out (by omega)).mono ?_; rintro e w1 ⟨b, vw, rfl, hm, hb⟩; have HM := hid hm; have HB := hid hb; clear hm hb) | (go_at_call 19; refine (Load_out _ _ _ _ _ _ HM.out Ho.out).mono ?_; rintro e w2 ⟨rfl, rfl⟩) | (go_at_call 20; refine (Store_out _ _ _ _ _ _ _ HM.out Ho.out).mono ?_; rintro e w2 ⟨rfl, rfl⟩) | (go_at_call 16; refine (Swap_out _ _ _ _ _ _ _ _ HM.out Ho.out).mono ?_; rintro e w2 ⟨rfl, rfl⟩) | (go_at_call 18; refine (Add_out _ _ _ _ _ _ _ HM.out Ho.out).mono ?_; rintro e w2 ⟨rfl, rfl⟩) | (go_at_call 9; refine (told_any _).mono ?_; rintro e w3 ⟨rfl, hb3⟩; have HM3 := hid (Mem.told HM.out hb3); have HB3 := hid (HB.out.trans (hb3.mono HB.out.size)); clear hb3) | (go_at_call 13; refine (steps_told0 HM3.out 0 rfl).mono ?_; rintro e w' ⟨rfl, rfl⟩) | (go_at_call 14; refine (last_told HM3.out 0 0 0 0 false rfl rfl rfl rfl rfl).mono ?_; rintro e w4 ⟨rfl, hb4⟩; have HM4 := hid (Mem.told HM3.out hb4); have HB4 := hid (HB3.out.trans (hb4.mono HB3.out.size)); clear hb4) | (go_at_call 17; refine (Peek_out _ _ _ _ _ _ HM4.out Ho.out).mono ?_; rintro e w' ⟨rfl, rfl⟩) | (go_at_call 11; refine (RefNew_any _ _ _ _ _ (HR.out _ HB4.out) (by omega) Hcap.out).mono ?_; rintro e w5 ⟨c, vr, rfl, hr, hb5⟩; have HF := hid hr; have HM5 := hid (Mem.told HM4.out hb5); have HB5 := hid (HB4.out.trans (hb5.mono HB4.out.size)); clear hr hb5) | (go_at_call 15; refine (Same_yes _ _ _ _ _ _ _ _ _ HM5.out HF.out rfl (by rw [show (MS.new zs).zs.length = len from Hlen.out]; omega)).mono ?_; rintro e w6 ⟨rfl, hb6⟩; have HB6 := hid (HB5.out.trans (hb6.mono HB5.out.size)); clear hb6))
    go_ret
    exact ⟨rfl, HB6.out⟩

theorem range_walk (a : Option Addr) (len cap : Nat) (zs : List Int) (i x y : Int) (w : World) (h : (a = none ∧ len = 0 ∧ cap = 0 ∧ zs = []) ∨
    ∃ x, a = some x ∧ len ≤ cap ∧ cap ≤ maxLen ∧ zs.length = cap ∧ (∀ i, i < zs.length → w.cell? (x.add i) = some (.int .i64 (zs.getD i 0))) ∧ ∀ n ∈ zs, (Lit.int .i64 n).wf = true) :
    Calls Try.prog 6 #[.slice a len cap, .int .i64 i, .int .i64 x, .int .i64 y] w fun e w' => e = .returned (.bool true) ∧ Below w.heap.size w w' := by
  obtain ⟨h1, h2, _, h4⟩ := IntRow.of_in h
  by_cases hl : len ≤ 40
  · by_cases hi : 0 ≤ i ∧ i < len
    · exact range_in a len cap _ i x y w h1 hl hi.1 hi.2
    · refine range_out a len cap _ i x y w h1 hl h4 (by omega) ?_
      by_cases h0 : 0 ≤ i
      · exact .inr ⟨by simpa using h0, by simp; omega⟩
      · exact .inl (by simpa using h0)
  · exact range_long a len cap i x y w (by omega) h2

end Go.Proofs.Ytaecjlpjcecgmaa
