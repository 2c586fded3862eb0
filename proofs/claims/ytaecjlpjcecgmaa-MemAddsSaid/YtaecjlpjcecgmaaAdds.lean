/-
  MemAdds, its walk.
-/
import Derived.Test.YtaecjlpjcecgmaaTold
import Derived.OpenShut
namespace Go.Proofs.Ytaecjlpjcecgmaa
open Go.RowKit

/-- The first k of a row of numbers, added. -/
def sumTo (f : Nat → Int) : Nat → Int
  | 0 => 0
  | k + 1 => sumTo f k + f k

theorem sumTo_congr {f g : Nat → Int} {n : Nat} (h : ∀ j, j < n → f j = g j) : sumTo f n = sumTo g n := by
  induction n with
  | zero => rfl
  | succ n ih => simp only [sumTo]; rw [ih (fun j hj => h j (by omega)), h n (by omega)]

theorem sumTo_shift (f : Nat → Int) (n : Nat) : sumTo (fun j => f (j + 1)) n + f 0 = sumTo f n + f n := by
  induction n with
  | zero => simp [sumTo]
  | succ n ih => simp only [sumTo]; omega

theorem sumTo_turn (f : Nat → Int) (n r : Nat) (hn : 0 < n) : sumTo (fun j => f ((j + r) % n)) n = sumTo f n := by
  induction r with
  | zero => exact sumTo_congr fun j hj => by rw [Nat.add_zero, Nat.mod_eq_of_lt hj]
  | succ r ih =>
    have h := sumTo_shift (fun j => f ((j + r) % n)) n
    have e1 : sumTo (fun j => f ((j + 1 + r) % n)) n = sumTo (fun j => f ((j + (r + 1)) % n)) n := sumTo_congr fun j _ => by rw [show j + 1 + r = j + (r + 1) by omega]
    have e2 : (n + r) % n = (0 + r) % n := by rw [Nat.add_mod_left, Nat.zero_add]
    simp only [e2] at h
    omega

theorem wrap_wrap (x y : Int) : wrap64 (wrap64 x + y) = wrap64 (x + y) := by unfold wrap64; omega

def AdOne (w : World) (b : Nat) (vw : Value) (word : Int) (f : Nat → Int) (k : Nat) (wr : World) : Prop :=
  ∃ s, Mem wr w.heap.size b vw s ∧ s.zs = [wrap64 (word + sumTo f k)]

def AdAt (w : World) (b1 : Nat) (v1 : Value) (b2 : Nat) (v2 : Value) (word : Int) (f g : Nat → Int) (k j : Nat) (wr : World) : Prop :=
  AdOne w b1 v1 word f k wr ∧ AdOne w b2 v2 word g j wr ∧ Below w.heap.size w wr ∧ ∀ i, MemS b1 v1 i → ¬ MemS b2 v2 i

theorem add_one {w wr : World} {b1 b2 : Nat} {v1 v2 : Value} {word : Int} {f g : Nat → Int} {k j : Nat} (h : AdAt w b1 v1 b2 v2 word f g k j wr) (z : Int) (hz : z = f k) (S : Int) (hS : wrap64 (word + sumTo f k) = S) :
    Calls Try.prog 18 #[.pointer (some ⟨b1, 0, none⟩), .int .i64 0, .int .i64 z] wr fun e w' => e = .returned (.tuple #[.int .i64 S, .int .i64 0]) ∧ AdAt w b1 v1 b2 v2 word f g (k + 1) j w' := by
  obtain ⟨⟨s, hm, hs⟩, ⟨t, ht, hts⟩, hb, hd⟩ := h
  refine (Add_in 0 z wr _ b1 v1 s hm (by decide) (by simp [hs])).mono ?_
  rintro e w' ⟨he, hm', hw⟩
  refine ⟨by rw [he, hs, ← hS]; rfl, ⟨_, hm', ?_⟩, ⟨t, ht.kept hw (fun i h1 h2 => hd i h2 h1), hts⟩, hb.trans (hw.below hb.size hm.old), hd⟩
  simp only [MS.acc, MS.put, hs, sumTo]
  subst hz
  simp [wrap_wrap, Int.add_assoc]

theorem AdAt.swap {w wr : World} {b1 b2 : Nat} {v1 v2 : Value} {word : Int} {f g : Nat → Int} {k j : Nat} (h : AdAt w b1 v1 b2 v2 word f g k j wr) : AdAt w b2 v2 b1 v1 word g f j k wr :=
  ⟨h.2.1, h.1, h.2.2.1, fun i h1 h2 => h.2.2.2 i h2 h1⟩

theorem add_two {w wr : World} {b1 b2 : Nat} {v1 v2 : Value} {word : Int} {f g : Nat → Int} {k j : Nat} (h : AdAt w b1 v1 b2 v2 word f g k j wr) (z : Int) (hz : z = g j) (S : Int) (hS : wrap64 (word + sumTo g j) = S) :
    Calls Try.prog 18 #[.pointer (some ⟨b2, 0, none⟩), .int .i64 0, .int .i64 z] wr fun e w' => e = .returned (.tuple #[.int .i64 S, .int .i64 0]) ∧ AdAt w b1 v1 b2 v2 word f g k (j + 1) w' := by
  refine (add_one h.swap z hz S hS).mono ?_
  rintro e w' ⟨he, h'⟩
  exact ⟨he, h'.swap⟩

theorem peek_one {w wr : World} {b1 b2 : Nat} {v1 v2 : Value} {word : Int} {f g : Nat → Int} {k j : Nat} (h : AdAt w b1 v1 b2 v2 word f g k j wr) (u : Int) (hu : u = wrap64 (word + sumTo f k)) :
    Calls Try.prog 17 #[.pointer (some ⟨b1, 0, none⟩), .int .i64 0] wr fun e w' => e = .returned (.int .i64 u) ∧ wr = w' := by
  obtain ⟨⟨s, hm, hs⟩, _⟩ := h
  refine (Peek_in 0 wr _ b1 v1 s hm (by decide) (by simp [hs])).mono ?_
  rintro e w' ⟨he, hw⟩
  exact ⟨by rw [he, hs, hu]; rfl, hw⟩

theorem AdAt.told {w wr w3 : World} {b1 b2 : Nat} {v1 v2 : Value} {word : Int} {f g : Nat → Int} {k j : Nat} (h : AdAt w b1 v1 b2 v2 word f g k j wr) (hb : Below wr.heap.size wr w3) : AdAt w b1 v1 b2 v2 word f g k j w3 := by
  obtain ⟨⟨s, hm, hs⟩, ⟨t, ht, hts⟩, hbw, hd⟩ := h
  exact ⟨⟨s, hm.kept (Wrote.of_below hb (fun _ => False)) (fun _ _ h => h), hs⟩, ⟨t, ht.kept (Wrote.of_below hb (fun _ => False)) (fun _ _ h => h), hts⟩, hbw.trans (hb.mono hbw.size), hd⟩

/-- Two memories made one behind the other lie apart. -/
theorem made_two {w wa w1 wb w2 : World} {b1 b2 : Nat} {v1 v2 : Value} {word : Int} (f g : Nat → Int) (hw : wrap64 word = word) (h0 : Below w.heap.size w wa) (hm1 : Mem w1 wa.heap.size b1 v1 (MS.new [word])) (hb1 : Below wa.heap.size wa w1)
    (h1 : Below w1.heap.size w1 wb) (hm2 : Mem w2 wb.heap.size b2 v2 (MS.new [word])) (hb2 : Below wb.heap.size wb w2) : AdAt w b1 v1 b2 v2 word f g 0 0 w2 := by
  have s0 := h0.size
  have s1 := hb1.size
  have s2 := h1.size
  have hbb : Below w1.heap.size w1 w2 := h1.trans (hb2.mono s2)
  refine ⟨⟨_, (hm1.mono s0).kept (Wrote.of_below hbb (fun _ => False)) (fun _ _ h => h), by simp [MS.new, sumTo, hw]⟩, ⟨_, hm2.mono (by omega), by simp [MS.new, sumTo, hw]⟩, (h0.trans (hb1.mono s0)).trans (hbb.mono (by omega)), ?_⟩
  intro i hi hj
  have hlt : i < w1.heap.size := by
    rcases hi with rfl | hi
    · exact hm1.lt
    · exact (hm1.row.lt i hi).2
  exact hm2.old i (by omega) hj

set_option maxHeartbeats 1000000 in
theorem adds_long (word first : Int) (a : Option Addr) (len cap : Nat) (w : World) (hl : 40 < len) (hm : len ≤ maxLen) :
    Calls Try.prog 5 #[.int .i64 word, .slice a len cap, .int .i64 first] w fun e w' => e = .returned (.bool true) ∧ Below w.heap.size w w' := by
  unfold maxLen at hm
  go_enter Try.func5, Try.ntmps5
  go_wp2_with (go_at_call 9; refine (told_any _).mono ?_; rintro e w3 ⟨rfl, hb3⟩)
  go_ret
  exact ⟨rfl, hb3⟩

theorem u64_small {n : Nat} (h : n ≤ 40) : IntKind.u64.wrap (n : Int) = (n : Int) := by
  simp only [IntKind.wrap, IntKind.signed, Bool.false_and]
  exact Int.emod_eq_of_lt (by omega) (Int.lt_of_le_of_lt (show (n : Int) ≤ 40 by omega) (by decide))

theorem u64_pos (n : Int) : 0 ≤ IntKind.u64.wrap n := by
  simp only [IntKind.wrap, IntKind.signed, Bool.false_and]
  exact Int.emod_nonneg _ (by decide)

set_option maxHeartbeats 1000000 in
theorem adds_short (word first : Int) (a : Option Addr) (len cap : Nat) (zs : List Int) (w : World) (h : IntRow w a len zs) (hl : len ≤ 40) (hwd : wrap64 word = word) :
    Calls Try.prog 5 #[.int .i64 word, .slice a len cap, .int .i64 first] w fun e w' => e = .returned (.bool true) ∧ Below w.heap.size w w' := by
  have H := hid h
  have Hwd := hid hwd
  clear h hwd
  obtain ⟨r, hr⟩ : ∃ r : Nat, IntKind.u64.wrap first % (len : Int) = (r : Int) ∧ (0 < len → r < len) := by
    refine ⟨(IntKind.u64.wrap first % (len : Int)).toNat, ?_, fun h0 => ?_⟩
    · rcases Nat.eq_zero_or_pos len with h0 | h0
      · subst h0; have := u64_pos first; simp; omega
      · have := Int.emod_nonneg (IntKind.u64.wrap first) (b := (len : Int)) (by omega); omega
    · have := Int.emod_lt_of_pos (IntKind.u64.wrap first) (b := (len : Int)) (by omega)
      have := Int.emod_nonneg (IntKind.u64.wrap first) (b := (len : Int)) (by omega)
      omega
  have Hr := hid hr
  clear hr
  go_enter Try.func5, Try.ntmps5
  go_wp2_with (go_at_call 10; first | (refine (New_any _ _ _ [word] _ (IntRow.lit [word] 2 w1 #[.int .i64 word] rfl 1 rfl) (by decide)).mono ?_; rintro e w2 ⟨b2, v2, rfl, hm2, hb2⟩; have HM2 := hid hm2; have HB2 := hid hb2; clear hm2 hb2) | (refine (New_any _ _ _ [word] _ (IntRow.lit [word] 2 w #[.int .i64 word] rfl 1 rfl) (by decide)).mono ?_; rintro e w1 ⟨b1, v1, rfl, hm1, hb1⟩; have HM1 := hid hm1; have HB1 := hid hb1; clear hm1 hb1))
  have HS := hid (made_two (fun j => zs.getD j 0) (fun j => zs.getD ((j + r) % len) 0) Hwd.out ((Below.refl _ w).alloc (Nat.le_refl _) _) HM1.out HB1.out ((Below.refl _ w1).alloc (Nat.le_refl _) _) HM2.out HB2.out)
  go_loopw [9, 10] (fun s i wr => ∃ k : Nat, k ≤ len ∧ i = .int .i64 k ∧ s = .int .i64 (wrap64 (word + sumTo (fun j => zs.getD j 0) k)) ∧ AdAt w b1 v1 b2 v2 word (fun j => zs.getD j 0) (fun j => zs.getD ((j + r) % len) 0) k k wr) (fun _ i _ => len - (intOf i).toNat)
  case atStart => exact ⟨0, Nat.zero_le _, rfl, by simp [sumTo, Hwd.out], HS.out⟩
  case round =>
    clear HS HM1 HM2 HB1 HB2
    obtain ⟨k, hk, rfl, rfl, hsw⟩ := hrel
    have HW := hid hsw
    clear hsw
    by_cases hlt : k < len
    · obtain ⟨b0, off, rfl, hb0, hc⟩ := H.out.at (by omega)
      have HC := hid hc
      clear hc
      have ck : wr.cell? ⟨b0, off + k, none⟩ = some (.int .i64 (zs.getD k 0)) := (HW.out.2.2.1.cell hb0).trans (HC.out k hlt)
      generalize hv : zs.getD k 0 = v at ck
      have Hv := hid hv
      clear hv
      generalize hS : wrap64 (word + sumTo (fun j => zs.getD j 0) k) = S
      have HS := hid hS
      clear hS
      have hu := u64_pos first
      have hu2 := u64_small hl
      have hr1 := Hr.out.1
      have hr2 := Hr.out.2 (by omega)
      obtain ⟨q, hq0⟩ : ∃ q, (k + r) % len = q := ⟨_, rfl⟩
      have hq : ((k : Int) + (r : Int)) % (len : Int) = (q : Int) := by rw [← hq0]; simp
      have hq2 : q < len := by rw [← hq0]; exact Nat.mod_lt _ (by omega)
      have Hq0 := hid hq0
      clear hq0
      obtain ⟨z2, hz2⟩ : ∃ z2, zs.getD q 0 = z2 := ⟨_, rfl⟩
      have Hz2 := hid hz2
      clear hz2
      obtain ⟨S2, hS2⟩ : ∃ S2, wrap64 (word + sumTo (fun j => zs.getD ((j + r) % len) 0) k) = S2 := ⟨_, rfl⟩
      have HS2 := hid hS2
      clear hS2
      go_wp2_with (go_at_call 18; first | ((with_reducible refine (add_one HW.out v Hv.out.symm S HS.out).mono ?_); rintro e w4 ⟨rfl, h4⟩; have HW4 := hid h4; clear h4; have cq : w4.cell? ⟨b0, off + q, none⟩ = some (.int .i64 z2) := (HW4.out.2.2.1.cell hb0).trans ((HC.out q hq2).trans (by rw [Hz2.out]))) | ((with_reducible refine (add_two HW4.out z2 (by rw [← Hz2.out, ← Hq0.out]) S2 HS2.out).mono ?_); rintro e w5 ⟨rfl, h5⟩; have HW5 := hid h5; clear h5; have ck5 : w5.cell? ⟨b0, off + k, none⟩ = some (.int .i64 v) := (HW5.out.2.2.1.cell hb0).trans ((HC.out k hlt).trans (by rw [Hv.out]))))
      go_roundw
      case rel => exact ⟨k + 1, by omega, by go_num, by simp only [sumTo, Hv.out]; rw [← HS.out, wrap_wrap, Int.add_assoc], HW5.out⟩
      case measure => simp [intOf]; omega
    · obtain rfl : k = len := by omega
      generalize hS : wrap64 (word + sumTo (fun j => zs.getD j 0) k) = S
      have HS := hid hS
      have HS2 : Hid (wrap64 (word + sumTo (fun j => zs.getD ((j + r) % k) 0) k) = S) := hid (by
        rcases Nat.eq_zero_or_pos k with h0 | h0
        · subst h0; exact hS
        · rw [← hS, sumTo_turn (fun j => zs.getD j 0) k r h0])
      clear hS hlt hk
      go_wp2_with (first | (go_at_call 9; refine (told_any _).mono ?_; rintro e w3 ⟨rfl, hb3⟩; have HW3 := hid (HW.out.told hb3)) | (go_at_call 17; first | ((with_reducible refine (peek_one HW3.out S HS.out.symm).mono ?_); rintro e w' ⟨rfl, rfl⟩) | ((with_reducible refine (peek_one HW3.out.swap S HS2.out.symm).mono ?_); rintro e w' ⟨rfl, rfl⟩)))
      go_ret
      exact ⟨rfl, HW3.out.2.2.1⟩

theorem wrap_of_wf {n : Int} (h : (Lit.int .i64 n).wf = true) : wrap64 n = n := by
  obtain ⟨h1, h2⟩ := bounds_i64 h
  exact IntWalk.wrap64_in _ ⟨h1, h2⟩

theorem adds_walk (word : Int) (a : Option Addr) (len cap : Nat) (zs : List Int) (first : Int) (w : World) (hw : (Lit.int .i64 word).wf = true) (h : (a = none ∧ len = 0 ∧ cap = 0 ∧ zs = []) ∨
    ∃ x, a = some x ∧ len ≤ cap ∧ cap ≤ maxLen ∧ zs.length = cap ∧ (∀ i, i < zs.length → w.cell? (x.add i) = some (.int .i64 (zs.getD i 0))) ∧ ∀ n ∈ zs, (Lit.int .i64 n).wf = true) :
    Calls Try.prog 5 #[.int .i64 word, .slice a len cap, .int .i64 first] w fun e w' => e = .returned (.bool true) ∧ Below w.heap.size w w' := by
  obtain ⟨h1, h2, _, _⟩ := IntRow.of_in h
  by_cases hl : len ≤ 40
  · exact adds_short word first a len cap _ w h1 hl (wrap_of_wf hw)
  · exact adds_long word first a len cap w (by omega) h2

end Go.Proofs.Ytaecjlpjcecgmaa
