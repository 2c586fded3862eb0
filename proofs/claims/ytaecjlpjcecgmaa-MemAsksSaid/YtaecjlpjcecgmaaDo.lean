/-
  Do: an access done to both: both answer alike, and are alike behind it.
-/
import Derived.Test.YtaecjlpjcecgmaaPair
namespace Go.Proofs.Ytaecjlpjcecgmaa
open Go.RowKit

set_option maxHeartbeats 1000000 in
/-- 'near' answers some place, and turns nothing. -/
theorem near_any (at_ n : Int) (h0 : 0 ≤ n) (hn : n ≤ 40) : ∃ p : Int, ∀ w : World, Calls Try.prog 24 #[.int .i64 at_, .int .i64 n] w fun e w' => e = .returned (.int .i64 p) ∧ w = w' := by
  have hu := u64_nonneg at_
  by_cases hn0 : n = 0
  · have e0 : (n == 0) = true := by simpa using hn0
    clear hn0
    refine ⟨at_, fun w => ?_⟩
    go_enter Try.func24, Try.ntmps24
    go_wp2
    go_ret
    exact ⟨rfl, rfl⟩
  · have e0 : (n == 0) = false := by simpa using hn0
    have hn1 : 1 ≤ n := by omega
    clear hn0
    by_cases k0 : IntKind.u64.wrap at_ % 16 = 0
    · refine ⟨at_, fun w => ?_⟩
      go_enter Try.func24, Try.ntmps24
      go_wp2
      go_ret
      exact ⟨rfl, rfl⟩
    · have e1 : (IntKind.u64.wrap at_ % 16 == 0) = false := by simpa using k0
      clear k0
      by_cases k1 : IntKind.u64.wrap at_ % 16 = 1
      · refine ⟨n, fun w => ?_⟩
        go_enter Try.func24, Try.ntmps24
        go_wp2
        go_ret
        exact ⟨rfl, rfl⟩
      · have e2 : (IntKind.u64.wrap at_ % 16 == 1) = false := by simpa using k1
        clear k1
        by_cases k2 : IntKind.u64.wrap at_ % 16 = 2
        · refine ⟨-1, fun w => ?_⟩
          go_enter Try.func24, Try.ntmps24
          go_wp2
          go_ret
          exact ⟨rfl, rfl⟩
        · have e3 : (IntKind.u64.wrap at_ % 16 == 2) = false := by simpa using k2
          clear k2
          refine ⟨(wrap64 (IntKind.u64.wrap ((IntKind.u64.wrap at_).tdiv 16))).tmod n, fun w => ?_⟩
          go_enter Try.func24, Try.ntmps24
          go_wp2
          go_ret
          exact ⟨rfl, rfl⟩

def DoPost (w : World) (B b : Nat) (vw : Value) (c : Nat) (vr : Value) (L : Nat) (e : Ending) (w' : World) : Prop :=
  ∃ s', e = .returned (.bool true) ∧ Pair w' B b vw c vr s' s' ∧ s'.zs.length = L ∧ Wrote (PairS b vw c vr) w w'

theorem near_quiet {at_ n p : Int} (h : ∀ w : World, Calls Try.prog 24 #[.int .i64 at_, .int .i64 n] w fun e w' => e = .returned (.int .i64 p) ∧ w = w') (w : World) (k : Nat) :
    Calls Try.prog 24 #[.int .i64 at_, .int .i64 n] (w.drewN k) fun e w'' => e = .returned (.int .i64 p) ∧ ∃ m, w'' = w.drewN m :=
  (h _).mono fun _ _ ⟨he, hw⟩ => ⟨he, k, hw.symm⟩

theorem box_cells (w : World) (k a x y : Int) (T : TypeId) (n : Nat) : let w1 := (w.alloc (.cells #[.int .i64 k, .int .i64 a, .int .i64 x, .int .i64 y] T)).drewN n
    w1.cell? ⟨w.heap.size, 0, none⟩ = some (.int .i64 k) ∧ w1.cell? ⟨w.heap.size, 2, none⟩ = some (.int .i64 x) ∧ w1.cell? ⟨w.heap.size, 3, none⟩ = some (.int .i64 y) ∧ Below w.heap.size w w1 := by
  refine ⟨?_, ?_, ?_, below_drewN ((Below.refl _ w).alloc (Nat.le_refl _) _) n⟩
  · rw [World.cell?_drewN, World.cell?_alloc_at _ _ _ _ rfl]; rfl
  · rw [World.cell?_drewN, World.cell?_alloc_at _ _ _ _ rfl]; rfl
  · rw [World.cell?_drewN, World.cell?_alloc_at _ _ _ _ rfl]; rfl

set_option maxHeartbeats 2000000 in
theorem Do_one (w : World) (B b : Nat) (vw : Value) (c : Nat) (vr : Value) (s : MS) (h : Pair w B b vw c vr s s) (hl : s.zs.length ≤ 40) (kind at_ a2 b2 : Int) (q : Nat) (hq : IntKind.u64.wrap kind % 5 = (q : Int)) (hq5 : q < 5) :
    Calls Try.prog 12 #[.pointer (some ⟨b, 0, none⟩), .pointer (some ⟨c, 0, none⟩), .agg #[.int .i64 kind, .int .i64 at_, .int .i64 a2, .int .i64 b2]] w (DoPost w B b vw c vr s.zs.length) := by
  have H := hid h
  have HN : Hid (¬ PairS b vw c vr w.heap.size) := hid (fun hS => Nat.lt_irrefl _ (h.young _ hS))
  have hcl := h.ref.lt
  have hc0 := h.ref.facts.1.1
  obtain ⟨ar, cr, hvr, hmx, _, _⟩ := h.ref.shape
  rw [hvr] at hc0
  unfold maxLen at hmx
  generalize hL : s.zs.length = L at hl hc0 hmx ⊢
  have HL := hid hL
  obtain ⟨p, hp⟩ := near_any at_ L (by omega) (by omega)
  have HP := hid hp
  have hu := u64_nonneg kind
  clear h hvr hL hp
  go_enter Try.func12, Try.ntmps12
  go_wp2
  go_quiet ((go_at_call 24; exact near_quiet HP.out _ _))
  obtain ⟨k0, k2, k3, hb1⟩ := box_cells w kind at_ a2 b2 31 nq
  have HP1 := hid (H.out.below hb1)
  have HW1 : Hid (Wrote (PairS b vw c vr) w ((w.alloc (.cells #[.int .i64 kind, .int .i64 at_, .int .i64 a2, .int .i64 b2] 31)).drewN nq)) := hid (Wrote.of_below hb1 _)
  clear hb1 hc0 H HP
  generalize (w.alloc (.cells #[.int .i64 kind, .int .i64 at_, .int .i64 a2, .int .i64 b2] 31)).drewN nq = w1 at k0 k2 k3 HP1 HW1 ⊢
  have K2 := hid k2
  have K3 := hid k3
  obtain rfl | rfl | rfl | rfl | rfl : q = 0 ∨ q = 1 ∨ q = 2 ∨ q = 3 ∨ q = 4 := by omega
  · have hq0 : IntKind.u64.wrap kind % 5 = 0 := hq
    clear hq
    go_wp2_with (first | (go_at_call 19; refine (Load_at _ _ _ _ _ _ HP1.out.mem).mono ?_; rintro e w2 ⟨rfl, hm, hw⟩; have HP2 := hid (HP1.out.one hm hw); have HW2 := hid (HW1.out.trans (wrote_one hw)); clear hm hw) | (go_at_call 25; refine (rLoad_at _ _ _ _ _ _ HP2.out.ref).mono ?_; rintro e w3 ⟨rfl, hm, hw⟩; have HP3 := hid (HP2.out.two hm hw); have HW3 := hid (HW2.out.trans (wrote_two hw)); clear hm hw))
    go_ret
    exact ⟨_, rfl, HP3.out, by rw [len_loaded]; exact HL.out, HW3.out⟩
  · have hq0 : IntKind.u64.wrap kind % 5 = 1 := hq
    clear hq
    go_wp2_with fail
    have HPd : Hid (Pair w1.drew B b vw c vr s s) := hid (HP1.out.below ((Below.refl _ w1).drew))
    have HWd : Hid (Wrote (PairS b vw c vr) w w1.drew) := hid HW1.out.drew
    go_region_with (first | (go_at_call 20; refine (Store_at _ _ _ _ _ _ _ HPd.out.mem).mono ?_; rintro e w2 ⟨rfl, hm, hw⟩; have HP2 := hid (HPd.out.one hm hw); have HW2 := hid (HWd.out.trans (wrote_one hw)); have k2' := hw.cell (p := ⟨w.heap.size, 2, none⟩) (fun h => HN.out (.inl h)) K2.out; clear hm hw) | (go_at_call 26; refine (rStore_at _ _ _ _ _ _ _ HP2.out.ref).mono ?_; rintro e w3 ⟨rfl, hm, hw⟩; have HP3 := hid (HP2.out.two hm hw); have HW3 := hid (HW2.out.trans (wrote_two hw)); clear hm hw))
    all_goals
      go_wp2
      go_ret
      exact ⟨_, rfl, HP3.out, by rw [len_stored]; exact HL.out, HW3.out⟩
  · have hq0 : IntKind.u64.wrap kind % 5 = 2 := hq
    clear hq
    go_wp2_with (first | (go_at_call 16; refine (Swap_at _ _ _ _ _ _ _ _ HP1.out.mem).mono ?_; rintro e w2 ⟨rfl, hm, hw⟩; have HP2 := hid (HP1.out.one hm hw); have HW2 := hid (HW1.out.trans (wrote_one hw)); have k2' := hw.cell (fun h => HN.out (.inl h)) K2.out; have k3' := hw.cell (fun h => HN.out (.inl h)) K3.out; clear hm hw) | (go_at_call 27; refine (rSwap_at _ _ _ _ _ _ _ _ HP2.out.ref).mono ?_; rintro e w3 ⟨rfl, hm, hw⟩; have HP3 := hid (HP2.out.two hm hw); have HW3 := hid (HW2.out.trans (wrote_two hw)); clear hm hw))
    go_ret
    exact ⟨_, rfl, HP3.out, by rw [len_swapped]; exact HL.out, HW3.out⟩
  · have hq0 : IntKind.u64.wrap kind % 5 = 3 := hq
    clear hq
    go_wp2_with (first | (go_at_call 18; refine (Add_at _ _ _ _ _ _ _ HP1.out.mem).mono ?_; rintro e w2 ⟨rfl, hm, hw⟩; have HP2 := hid (HP1.out.one hm hw); have HW2 := hid (HW1.out.trans (wrote_one hw)); have k2' := hw.cell (fun h => HN.out (.inl h)) K2.out; clear hm hw) | (go_at_call 28; refine (rAdd_at _ _ _ _ _ _ _ HP2.out.ref).mono ?_; rintro e w3 ⟨rfl, hm, hw⟩; have HP3 := hid (HP2.out.two hm hw); have HW3 := hid (HW2.out.trans (wrote_two hw)); clear hm hw))
    go_ret
    exact ⟨_, rfl, HP3.out, by rw [len_added]; exact HL.out, HW3.out⟩
  · have hq0 : IntKind.u64.wrap kind % 5 = 4 := hq
    clear hq
    go_wp2_with (first | (go_at_call 17; refine (Peek_at _ _ _ _ _ _ HP1.out.mem).mono ?_; rintro e w' ⟨rfl, rfl⟩) | (go_at_call 29; refine (rPeek_at _ _ _ _ _ _ HP1.out.ref).mono ?_; rintro e w' ⟨rfl, rfl⟩))
    go_ret
    exact ⟨_, rfl, HP1.out, HL.out, HW1.out⟩

theorem Do_any (w : World) (B b : Nat) (vw : Value) (c : Nat) (vr : Value) (s : MS) (h : Pair w B b vw c vr s s) (hl : s.zs.length ≤ 40) (kind at_ a2 b2 : Int) :
    Calls Try.prog 12 #[.pointer (some ⟨b, 0, none⟩), .pointer (some ⟨c, 0, none⟩), .agg #[.int .i64 kind, .int .i64 at_, .int .i64 a2, .int .i64 b2]] w (DoPost w B b vw c vr s.zs.length) := by
  have h0 := Int.emod_nonneg (IntKind.u64.wrap kind) (b := 5) (by omega)
  have h1 := Int.emod_lt_of_pos (IntKind.u64.wrap kind) (b := 5) (by omega)
  exact Do_one w B b vw c vr s h hl kind at_ a2 b2 (IntKind.u64.wrap kind % 5).toNat (by omega) (by omega)

end Go.Proofs.Ytaecjlpjcecgmaa
