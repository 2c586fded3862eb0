/-
  THE CONTRACTS of package writes: those that read.
-/
import Derived.Test.YtjfinnjmcnjciaaWrP
import Derived.Test.YtjfinnjmcnjciaaStage
import Derived.Test.YtjfinnjmcnjciaaLater
import Derived.Deep.DeepCutAuto
import Derived.BigQuiet
namespace Go.Proofs.Ytjfinnjmcnjciaa
open Go.RowKit
attribute [local go_sem] Later.cell Later.frozen

theorem bit_shl {k : Int} (h : 0 ≤ k) : IntKind.u64.wrap (2 ^ (k % 64).toNat) = (bitF k : Int) := by
  have e : (k % 64).toNat = k.toNat % 64 := by omega
  have h1 := bitN_lt k
  rw [bitF_pos h, e]
  unfold bitN at *
  rw [show (2 : Int) ^ (k.toNat % 64) = ((2 ^ (k.toNat % 64) : Nat) : Int) from (Int.natCast_pow 2 _).symm]
  generalize 2 ^ (k.toNat % 64) = x at *
  exact u64_wrap (by omega) (by omega)
set_option maxHeartbeats 400000 in
theorem bit_any (k : Int) (w : World) : Calls Try.prog 141 #[.int .i64 k] w fun e w' => e = .returned (.int .u64 (bitF k)) ∧ w = w' := by
  by_cases h : k < 0
  · have H := hid (bitF_neg h)
    go_enter Try.func141, Try.ntmps141
    go_wp2
    go_ret
    exact ⟨by rw [H.out]; rfl, rfl⟩
  · have h0 : 0 ≤ k := by omega
    have H := hid (bit_shl h0)
    have e0 : 0 ≤ k % 64 := by omega
    have e1 : k % 64 ≤ 64 := by omega
    go_enter Try.func141, Try.ntmps141
    go_wp2
    go_ret
    exact ⟨by rw [← H.out]; rfl, rfl⟩

set_option maxHeartbeats 400000 in
theorem wlist_nil (w : World) : Calls Try.prog 103 #[.pointer none] w fun e w' => e = .returned (.slice none 0 0) ∧ w = w' := by
  go_enter Try.func103, Try.ntmps103
  go_wp2
  go_ret
  exact ⟨rfl, rfl⟩
set_option maxHeartbeats 400000 in
theorem wlist_any (b R : Nat) (ws : List Wd) (n : Nat) (w : World) (h : WSet w b R ws n) :
    Calls Try.prog 103 #[.pointer (some ⟨b, 0, none⟩)] w fun e w' => e = .returned (.slice (some ⟨b, 2, none⟩) ws.length 32) ∧ Below w.heap.size w w' := by
  obtain ⟨c0, c1, c66, c67, cf, _⟩ := h.facts
  have f1 := cf 1
  have l1 : (0 : Int) ≤ (ws.length : Int) := by omega
  have l2 : (ws.length : Int) ≤ 32 := by have := h.len; have := h.room; omega
  have hlt := h.lt
  clear h cf c66 c67
  generalize ws.length = n at *
  go_enter Try.func103, Try.ntmps103
  go_wp2
  go_quiet (fail)
  go_wp2
  go_ret
  exact ⟨rfl, rfl, rfl, rfl, Nat.le_refl _, fun _ _ => rfl⟩
set_option maxHeartbeats 400000 in
theorem wLen_nil (w : World) : Calls Try.prog 95 #[.pointer none] w fun e w' => e = .returned (.int .i64 0) ∧ w = w' := by
  go_enter Try.func95, Try.ntmps95
  go_wp2_with (go_at_call 103; (with_reducible refine (wlist_nil _).mono ?_); rintro e w' ⟨rfl, rfl⟩)
  go_ret
  exact ⟨rfl, rfl⟩
set_option maxHeartbeats 400000 in
theorem wLen_any (b R : Nat) (ws : List Wd) (n : Nat) (w : World) (h : WSet w b R ws n) :
    Calls Try.prog 95 #[.pointer (some ⟨b, 0, none⟩)] w fun e w' => e = .returned (.int .i64 ws.length) ∧ Below w.heap.size w w' := by
  have H := hid h
  clear h
  go_enter Try.func95, Try.ntmps95
  go_wp2_with (go_at_call 103; (with_reducible refine (wlist_any _ _ _ _ _ H.out).mono ?_); rintro e w' ⟨rfl, hb⟩)
  go_ret
  exact ⟨rfl, hb⟩
set_option maxHeartbeats 400000 in
theorem Filter_nil (w : World) : Calls Try.prog 140 #[.pointer none] w fun e w' => e = .returned (.int .u64 0) ∧ w = w' := by
  go_enter Try.func140, Try.ntmps140
  go_wp2
  go_ret
  exact ⟨rfl, rfl⟩
set_option maxHeartbeats 400000 in
theorem Filter_any (b R : Nat) (ws : List Wd) (n : Nat) (w : World) (h : WSet w b R ws n) :
    Calls Try.prog 140 #[.pointer (some ⟨b, 0, none⟩)] w fun e w' => e = .returned (.int .u64 (filtL ws)) ∧ w = w' := by
  obtain ⟨c0, c1, c66, c67, cf, _⟩ := h.facts
  have f1 := cf 66
  clear h cf c0 c1 c67
  go_enter Try.func140, Try.ntmps140
  go_wp2
  go_ret
  exact ⟨rfl, rfl⟩
theorem and_filt (ws : List Wd) (k : Int) : bits .and .u64 (filtL ws : Int) (bitF k : Int) = ((filtL ws &&& bitF k : Nat) : Int) := and_u64 _ _ (filtL_lt ws) (bitF_lt k)
theorem may_neq (ws : List Wd) (k : Int) : (((filtL ws &&& bitF k : Nat) : Int) != 0) = mayL ws k := by
  rw [← mayL_and]
  generalize filtL ws &&& bitF k = x
  rw [Bool.eq_iff_iff]
  simp
set_option maxHeartbeats 400000 in
theorem mayHave_nil (k : Int) (w : World) : Calls Try.prog 115 #[.pointer none, .int .i64 k] w fun e w' => e = .returned (.bool false) ∧ w = w' := by
  have e1 : bits .and .u64 0 (bitF k : Int) = 0 := by
    have := and_u64 0 (bitF k) (by decide) (bitF_lt k)
    rw [Nat.zero_and] at this
    exact this
  have HB := hid (bit_any k)
  go_enter Try.func115, Try.ntmps115
  go_wp2_with (first | (go_at_call 140; (with_reducible refine (Filter_nil _).mono ?_); rintro e w' ⟨rfl, rfl⟩) | (go_at_call 141; (with_reducible refine (HB.out _).mono ?_); rintro e w' ⟨rfl, rfl⟩))
  go_ret
  exact ⟨rfl, rfl⟩
set_option maxHeartbeats 400000 in
theorem mayHave_any (k : Int) (b R : Nat) (ws : List Wd) (n : Nat) (w : World) (h : WSet w b R ws n) :
    Calls Try.prog 115 #[.pointer (some ⟨b, 0, none⟩), .int .i64 k] w fun e w' => e = .returned (.bool (mayL ws k)) ∧ w = w' := by
  have HF := hid (Filter_any b R ws n w h)
  have HB := hid (bit_any k w)
  have e1 := and_filt ws k
  have H2 := hid (may_neq ws k)
  clear h
  go_enter Try.func115, Try.ntmps115
  go_wp2_with (first | (go_at_call 140; (with_reducible refine HF.out.mono ?_); rintro e w' ⟨rfl, rfl⟩) | (go_at_call 141; (with_reducible refine HB.out.mono ?_); rintro e w' ⟨rfl, rfl⟩))
  go_ret
  exact ⟨by rw [← H2.out]; rfl, rfl⟩

set_option maxHeartbeats 400000 in
theorem find_nil (k : Int) (w : World) : Calls Try.prog 116 #[.pointer none, .int .i64 k] w fun e w' => e = .returned (.int .i64 (-1)) ∧ w = w' := by
  go_enter Try.func116, Try.ntmps116
  go_wp2_with (go_at_call 115; (with_reducible refine (mayHave_nil _ _).mono ?_); rintro e w' ⟨rfl, rfl⟩)
  go_ret
  exact ⟨rfl, rfl⟩

set_option maxHeartbeats 4000000 in
theorem pfind_any (k : Int) (b R : Nat) (ws : List Wd) (n : Nat) (w : World) (h : WSet w b R ws n) :
    Calls Try.prog 116 #[.pointer (some ⟨b, 0, none⟩), .int .i64 k] w fun e w' => e = .returned (.int .i64 (findF ws k)) ∧ Below w.heap.size w w' := by
  have HM := hid (mayHave_any k b R ws n w h)
  cases hm : mayL ws k with
  | false =>
    have HF := hid (findF_none (h.pos.may hm))
    rw [hm] at HM
    clear h
    go_enter Try.func116, Try.ntmps116
    go_wp2_with (go_at_call 115; (with_reducible refine HM.out.mono ?_); rintro e w' ⟨rfl, rfl⟩)
    go_ret
    exact ⟨by rw [HF.out]; rfl, bid w⟩
  | true =>
    rw [hm] at HM
    have H := hid h
    have HR := hid h.row
    obtain ⟨m, hn⟩ : ∃ m, m = ws.length := ⟨_, rfl⟩
    have HN := hid hn
    have hn32 : m ≤ 32 := by have := h.len; have := h.room; omega
    have HL := hid (fun (W : World) (h : WSet W b R ws n) => (show Calls Try.prog 103 #[.pointer (some ⟨b, 0, none⟩)] W fun e w' => e = .returned (.slice (some ⟨b, 2, none⟩) m 32) ∧ Below W.heap.size W w' from by have := wlist_any b R ws n W h; rwa [← hn] at this))
    clear h hn hm
    go_enter Try.func116, Try.ntmps116
    go_wp2_with (first | (go_at_call 115; go_must ((with_reducible refine HM.out.mono ?_); rintro e w' ⟨rfl, rfl⟩)) | (go_at_call 103; go_must ((with_reducible refine (HL.out _ H.out).mono ?_); rintro e w1 ⟨rfl, hb⟩; have HB := hid hb; clear hb)))
    clear HL H HM
    go_loopw [14] (fun i W => ∃ j : Nat, j ≤ m ∧ i = .int .i64 j ∧ hasL (ws.take j) k = false ∧ Below w.heap.size w W) (fun i _ => m - (intOf i).toNat)
    case atStart => exact ⟨0, by omega, rfl, rfl, HB.out⟩
    case round =>
      clear HB
      obtain ⟨j, hj, rfl, hf, hb⟩ := hrel
      have HF := hid hf
      have HB := hid hb
      clear hf hb
      by_cases hlt : j < m
      · obtain ⟨p, hp⟩ := word_at (ws := ws) (k := j) (by rw [← HN.out]; exact hlt)
        obtain ⟨b', off, hbo, hbl, hcs⟩ := (HR.out.below HB.out).at (by rw [← HN.out]; omega)
        simp only [Option.some.injEq, Addr.mk.injEq, and_true] at hbo
        obtain ⟨rfl, rfl⟩ := hbo
        obtain ⟨cq0, cq1⟩ := hcs j p hp
        clear hcs
        have HP := hid hp
        have HS := hid (hasL_take hp k)
        clear hp
        have n1 : (0 : Int) ≤ (j : Int) := by omega
        have n2 : (j : Int) < (m : Int) := by omega
        obtain ⟨p1, p2⟩ := p
        by_cases hpk : p1 = k
        · subst hpk
          go_wp2_with fail
          go_ret
          exact ⟨by rw [findF_hit HP.out rfl HF.out]; rfl, bnew HB.out _⟩
        · have hpe : (p1 == k) = false := by simpa using hpk
          go_wp2_with fail
          go_roundw
          case rel => exact ⟨j + 1, by omega, by go_num, by rw [HS.out, HF.out, hpe]; rfl, bnew HB.out _⟩
          case measure => simp [intOf]; omega
      · obtain rfl : j = m := by omega
        go_wp2_with fail
        go_ret
        exact ⟨by have h := HF.out; rw [HN.out, List.take_length] at h; rw [findF_none h]; rfl, HB.out⟩

end Go.Proofs.Ytjfinnjmcnjciaa
