/-
  MemOwn, its walk.
-/
import Derived.Test.YtaecjlpjcecgmaaRange
import Derived.Test.YtaecjlpjcecgmaaLimit
import Derived.Test.YtaecjlpjcecgmaaAdds
import Derived.Maps.AppendAt
namespace Go.Proofs.Ytaecjlpjcecgmaa
open Go.RowKit

set_option maxHeartbeats 1000000 in
theorem own_out (a : Option Addr) (len cap : Nat) (i x : Int) (w : World) (hl : len < 1 ∨ 40 < len) (hm : len ≤ maxLen) :
    Calls Try.prog 7 #[.slice a len cap, .int .i64 i, .int .i64 x] w fun e w' => e = .returned (.bool true) ∧ Below w.heap.size w w' := by
  unfold maxLen at hm
  rcases hl with hl | hl
  · obtain rfl : len = 0 := by omega
    go_enter Try.func7, Try.ntmps7
    go_wp2_with (go_at_call 9; refine (told_any _).mono ?_; rintro e w3 ⟨rfl, hb3⟩)
    go_ret
    exact ⟨rfl, hb3⟩
  · have h0 : decide ((len : Int) < 1) = false := by simp; omega
    have h1 : decide ((40 : Int) < (len : Int)) = true := by simp; omega
    go_enter Try.func7, Try.ntmps7
    go_wp2_with (go_at_call 9; refine (told_any _).mono ?_; rintro e w3 ⟨rfl, hb3⟩)
    go_ret
    exact ⟨rfl, hb3⟩

theorem own_at {w : World} {B : Nat} {E : TypeId} {a : Option Addr} {n c : Nat} {xs : List Value} (h : w.ownsRow B E 1 (.slice a n c) n xs) (hn : 0 < n) :
    ∃ g, a = some ⟨g, 0, none⟩ ∧ B ≤ g ∧ g < w.heap.size ∧ (∀ j, j < n → w.cell? ⟨g, j, none⟩ = xs[j]?) ∧ ∀ j, w.frozen? ⟨g, j, none⟩ = false := by
  rcases h.2 with ⟨_, h0⟩ | ⟨g, cap, cur, h1, h2, h3, _⟩
  · omega
  · simp only [Value.slice.injEq] at h1
    obtain ⟨rfl, _, rfl⟩ := h1
    exact ⟨g, rfl, h2, lt_of_block h3, fun j hj => h.cellAt j (by simpa using hj), fun j => h.frozenAt j⟩

theorem own_row {w : World} {B : Nat} {E : TypeId} {v : Value} {n k : Nat} {zs : List Int} (h : w.ownsRow B E 1 v (0 + n) ([] ++ zs.map (Value.int .i64))) (hn : 0 < n) (hk : k < n) {z : Int} (hz : zs.getD k 0 = z) :
    ∃ g c, v = .slice (some ⟨g, 0, none⟩) n c ∧ B ≤ g ∧ w.cell? ⟨g, k, none⟩ = some (.int .i64 z) ∧ w.frozen? ⟨g, k, none⟩ = false := by
  rw [Nat.zero_add, List.nil_append] at h
  rcases h.2 with ⟨_, h0⟩ | ⟨g, cap, cur, h1, h2, h3, _⟩
  · omega
  · subst h1
    have hl : zs.length = n := by simpa using h.1
    refine ⟨g, cap, rfl, h2, ?_, h.frozenAt k⟩
    rw [h.cellAt k (by simpa using hk), ← hz]
    simp [hl, hk]

theorem own_all {w : World} {B b : Nat} {vw : Value} {zs : List Int} (h : Mem w B b vw (MS.new zs)) {len k : Nat} (hlen : zs.length = len) (hl : len ≤ 40) (hk : k < len) {z : Int} (hz : zs.getD k 0 = z) :
    Calls Try.prog 21 #[.pointer (some ⟨b, 0, none⟩)] w fun e w' => ∃ g c, e = .returned (.slice (some ⟨g, 0, none⟩) len c) ∧ w.heap.size ≤ g ∧ w'.cell? ⟨g, k, none⟩ = some (.int .i64 z) ∧ w'.frozen? ⟨g, k, none⟩ = false ∧ Below w.heap.size w w' := by
  subst hlen
  refine (All_any w B b vw _ h (by show zs.length ≤ 4096; omega)).mono ?_
  rintro e w' ⟨a', c', he, ho, hb⟩
  have ho' : w'.ownsRow w.heap.size 2 1 (.slice a' zs.length c') (0 + zs.length) ([] ++ zs.map (Value.int .i64)) := by rw [Nat.zero_add, List.nil_append]; exact ho
  obtain ⟨g, c, h1, h2, h3, h4⟩ := own_row ho' (by omega) hk hz
  exact ⟨g, c, by rw [he, show (MS.new zs).zs.length = zs.length from rfl, h1], h2, h3, h4, hb⟩

theorem own_peek {w : World} {B b : Nat} {vw : Value} {zs : List Int} (h : Mem w B b vw (MS.new zs)) {len k : Nat} (hlen : zs.length = len) (hk : k < len) {z : Int} (hz : zs.getD k 0 = z) :
    Calls Try.prog 17 #[.pointer (some ⟨b, 0, none⟩), .int .i64 k] w fun e w' => e = .returned (.int .i64 z) ∧ w = w' := by
  refine (Peek_in k w B b vw _ h (by omega) (by show (k : Int) < (zs.length : Int); omega)).mono ?_
  rintro e w' ⟨he, hw⟩
  exact ⟨by rw [he, ← hz]; rfl, hw⟩

theorem Mem.set {w : World} {B b : Nat} {vw : Value} {s : MS} (h : Mem w B b vw s) {g : Nat} (hg : ¬ MemS b vw g) (o : Nat) (v : Value) : Mem (w.setCell ⟨g, o, none⟩ v) B b vw s :=
  h.kept (S := fun q => q = g) (Wrote.setCell (Wrote.refl _ w) (by intro _; rfl) v) (fun q hq e => hg (e ▸ hq))

set_option maxHeartbeats 1000000 in
theorem own_in (a : Option Addr) (len cap : Nat) (zs : List Int) (i x : Int) (w : World) (h : IntRow w a len zs) (h0 : 1 ≤ len) (hl : len ≤ 40) :
    Calls Try.prog 7 #[.slice a len cap, .int .i64 i, .int .i64 x] w fun e w' => e = .returned (.bool true) ∧ Below w.heap.size w w' := by
  have hlen := h.1
  obtain ⟨i0, hi, hz0, hz1, hz2⟩ := info_parts infoE
  obtain ⟨b0, off, rfl, hb0, hc⟩ := h.at (by omega)
  have H := hid h
  have HN := hid (fun W' hW => news_of (w' := W') (x := ⟨b0, off, none⟩) hlen (fun j hj => by rw [add_at]; exact hc j hj) hW)
  have E1 : Hid ((zs.map (Value.int .i64)).length = len * 1) := hid (by simp [hlen])
  have E3 : Hid (0 + len ≤ maxLen) := hid (by unfold maxLen; omega)
  have E4 : Hid ((0 + len) * 8 ≤ 140737488355328) := hid (by omega)
  have E5 : Hid (w.heap.size ≤ (w.alloc (.cells #[] 2)).heap.size) := hid (by simp)
  have hu := u64_nonneg i
  have hu2 : IntKind.u64.wrap (len : Int) = (len : Int) := u64_small hl
  obtain ⟨k, hk⟩ : ∃ k : Nat, IntKind.u64.wrap i % (len : Int) = (k : Int) ∧ k < len := by
    have := Int.emod_lt_of_pos (IntKind.u64.wrap i) (b := (len : Int)) (by omega)
    have := Int.emod_nonneg (IntKind.u64.wrap i) (b := (len : Int)) (by omega)
    exact ⟨(IntKind.u64.wrap i % (len : Int)).toNat, by omega, by omega⟩
  obtain ⟨hk1, hk2⟩ := hk
  obtain ⟨z, hz⟩ : ∃ z, zs.getD k 0 = z := ⟨_, rfl⟩
  have Hz := hid hz
  have Hlen := hid hlen
  have HC := hid (hz ▸ hc k hk2)
  clear hz
  clear h hc hlen
  go_enter Try.func7, Try.ntmps7
  go_wp2_with (first | (at_builtin; refine wpList_append_own _ rfl _ _ 22 rfl w.heap.size 2 i0 (.int .i64 0) 1 8 Try.underlying22 hi hz0 hz1 hz2 rfl (by decide) (.slice (some ⟨w.heap.size, 0, none⟩) 0 0) 0 [] rfl (World.ownsRow_lit w #[] 0 (Nat.le_refl _) (Nat.zero_le _) rfl) ⟨b0, off, none⟩ len cap (zs.map (Value.int .i64)) rfl E1.out (HN.out _ ((Below.refl _ w).alloc (Nat.le_refl _) _)) (ints_oneCell _ _) E3.out E4.out E5.out ?_; intro v1 w1 hown hgrow _; obtain ⟨g, c', hv1, hg, cg0, fg0⟩ := own_row hown (by omega) hk2 Hz.out; rw [hv1]; rw [hv1, List.nil_append, Nat.zero_add] at hown; have hgl := (hown.lt g rfl).2; have HO := hid hown; have HB := hid (((Below.refl _ w).alloc (Nat.le_refl _) _).grown hgrow (by simp) (by intro q hq; simp [Value.ownBlock] at hq; omega)); clear hown hgrow hv1) | (go_at_call 10; refine (New_any _ _ _ _ _ (IntRow.of_own HO.out) (by omega)).mono ?_; rintro e w2 ⟨b, vw, rfl, hm, hb⟩; have HM := hid hm; have HB2 := hid hb; have cg : w2.cell? ⟨g, k, none⟩ = some (.int .i64 z) := (hb.cell hgl).trans cg0; have fg : w2.frozen? ⟨g, k, none⟩ = false := (hb.frozen hgl).trans fg0; clear hm hb) | (go_at_call 21; have HM3 := hid (Mem.set HM.out (HM.out.old g hgl) k (.int .i64 (wrap64 (z + 1)))); refine (own_all HM3.out Hlen.out hl hk2 Hz.out).mono ?_; rintro e w3 ⟨g2, c2, rfl, hg2, c3, f3, hb3⟩; have HB3 := hid hb3; have HG2 := hid hg2; clear hb3 hg2))
  have HM4 : Hid (Mem (w3.setCell ⟨g2, k, none⟩ (.int .i64 x)) w1.heap.size b vw (MS.new zs)) := hid (Mem.set (Mem.told HM3.out HB3.out) (fun hq => by
    have h2 := HG2.out
    rcases hq with rfl | hq
    · have := HM3.out.lt; omega
    · have := (HM3.out.row.lt g2 hq).2; omega) k (.int .i64 x))
  have HB4 : Hid (Below w.heap.size w (w3.setCell ⟨g2, k, none⟩ (.int .i64 x))) := hid (by
    have s1 := HB.out.size
    have s2 := HB2.out.size
    have h2 := HG2.out
    have hb2 : Below w.heap.size w w2 := HB.out.trans (HB2.out.mono s1)
    have hb3 := (hb2.setCell (p := ⟨g, k, none⟩) hg (.int .i64 (wrap64 (z + 1)))).trans (HB3.out.mono (by simp; omega))
    exact hb3.setCell (p := ⟨g2, k, none⟩) (by simp at h2 ⊢; omega) (.int .i64 x))
  generalize w3.setCell ⟨g2, k, none⟩ (.int .i64 x) = w4 at HM4 HB4 ⊢
  clear cg fg c3 f3 cg0 fg0 HB3 HG2 HM3 HB2 HM HO HB
  have q1 : (0 : Int) ≤ (k : Int) := by omega
  have q2 : (k : Int) < (len : Int) := by omega
  go_region_with (first
    | (go_at_call 9; refine (told_any _).mono ?_; rintro e w5 ⟨rfl, hb5⟩; have HM5 := hid (Mem.told (w := w4.drew) (HM4.out.kept (Wrote.refl (fun _ => False) w4).drew (fun _ _ h => h)) hb5); have HB5 := hid (HB4.out.drew.trans (hb5.mono HB4.out.drew.size)); have cz := (HB5.out.cell (p := ⟨b0, off + k, none⟩) hb0).trans HC.out; clear hb5)
    | (go_at_call 17; refine (own_peek HM5.out Hlen.out hk2 Hz.out).mono ?_; rintro e w' ⟨rfl, rfl⟩)
    | (go_at_call 11; refine (RefNew_any _ _ _ _ _ (H.out.below HB5.out) (by omega) (by simp)).mono ?_; rintro e w6 ⟨c, vr, rfl, hr, hb6⟩; have HF := hid hr; have HM6 := hid (Mem.told HM5.out hb6); have HB6 := hid (HB5.out.trans (hb6.mono HB5.out.size)); clear hr hb6)
    | (go_at_call 15; refine (Same_yes _ _ _ _ _ _ _ _ _ HM6.out HF.out rfl (by rw [show (MS.new zs).zs.length = len from Hlen.out]; omega)).mono ?_; rintro e w7 ⟨rfl, hb7⟩; have HB7 := hid (HB6.out.trans (hb7.mono HB6.out.size)); clear hb7))
  all_goals
    go_wp2
    go_ret
    exact ⟨rfl, HB7.out⟩

theorem own_walk (a : Option Addr) (len cap : Nat) (zs : List Int) (i x : Int) (w : World) (h : (a = none ∧ len = 0 ∧ cap = 0 ∧ zs = []) ∨
    ∃ x, a = some x ∧ len ≤ cap ∧ cap ≤ maxLen ∧ zs.length = cap ∧ (∀ i, i < zs.length → w.cell? (x.add i) = some (.int .i64 (zs.getD i 0))) ∧ ∀ n ∈ zs, (Lit.int .i64 n).wf = true) :
    Calls Try.prog 7 #[.slice a len cap, .int .i64 i, .int .i64 x] w fun e w' => e = .returned (.bool true) ∧ Below w.heap.size w w' := by
  obtain ⟨h1, h2, _, h4⟩ := IntRow.of_in h
  by_cases hl : 1 ≤ len ∧ len ≤ 40
  · exact own_in a len cap _ i x w h1 hl.1 hl.2
  · exact own_out a len cap i x w (by omega) h2

end Go.Proofs.Ytaecjlpjcecgmaa
