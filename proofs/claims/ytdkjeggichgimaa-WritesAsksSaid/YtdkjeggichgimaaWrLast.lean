/-
  WritesLast: its walk.
-/
import Derived.Test.YtdkjeggichgimaaWrT
namespace Go.Proofs.Ytdkjeggichgimaa
open Go.RowKit
attribute [local go_sem] Later.cell Later.frozen

/-- Where a walk over a set stands. -/
structure WmAt (w : World) (b R : Nat) (ws : List Wd) (n : Nat) (W : World) : Prop where
  set : WSet W b R ws n
  young : w.heap.size ≤ b
  below : Below w.heap.size w W
theorem WmAt.later {w W W' : World} {b R : Nat} {ws : List Wd} {n : Nat} (h : WmAt w b R ws n W) (hb : Below W.heap.size W W') : WmAt w b R ws n W' := ⟨h.set.below hb, h.young, bthen h.below hb⟩
theorem WmAt.put {w W W' : World} {b R : Nat} {ws ws' : List Wd} {n n' : Nat} (h : WmAt w b R ws n W) (hs : WSet W' b R ws' n') (hw : Wrote (fun j => j = b) W W') : WmAt w b R ws' n' W' :=
  ⟨hs, h.young, h.below.trans (hw.below h.below.size (fun k hk e => by have := h.young; omega))⟩

/-- A Put where there is room. -/
theorem wput_room {R : Nat} {ws : List Wd} {k : Int} (v : Int) (h0 : 0 ≤ k) (hl : ws.length < R) :
    wputB R ws k = true ∧ (∀ j, hasL (wputL R ws k v) j = (k == j || hasL ws j)) ∧ (∀ j, valL (wputL R ws k v) j = if k = j then v else valL ws j) ∧ (wputL R ws k v).length ≤ ws.length + 1 ∧
      filtL (wputL R ws k v) = filtL ws ||| bitN k := by
  cases hh : hasL ws k with
  | true =>
    refine ⟨wputB_there h0 hh, fun j => ?_, fun j => ?_, ?_, ?_⟩
    · rw [wputL_there v h0 hh, hasL_upd]
      by_cases e : k = j
      · subst e; rw [hh]; simp
      · rw [show (k == j) = false by simpa using e]; rfl
    · rw [wputL_there v h0 hh]; exact valL_upd ws k v j hh
    · rw [wputL_there v h0 hh, updL_len]; omega
    · rw [wputL_there v h0 hh, filtL_upd]
      have hm := mayL_has h0 hh
      unfold mayL at hm
      rw [decide_eq_true h0, Bool.true_and] at hm
      refine Nat.eq_of_testBit_eq fun i => ?_
      rw [Nat.testBit_or]
      unfold bitN
      rw [Nat.testBit_two_pow]
      by_cases e : k.toNat % 64 = i
      · subst e; rw [hm]; rfl
      · rw [decide_eq_false e, Bool.or_false]
  | false =>
    refine ⟨by rw [wputB_new h0 hh, decide_eq_true hl], fun j => ?_, fun j => ?_, ?_, ?_⟩
    · rw [wputL_new v h0 hh hl, hasL_snoc, Bool.or_comm]
    · rw [wputL_new v h0 hh hl]; exact valL_snoc ws k v j hh
    · rw [wputL_new v h0 hh hl, List.length_append]; simp
    · rw [wputL_new v h0 hh hl, filtL_snoc]
/-- A number taken modulo m, as it walks. -/
theorem mod_pick (x : Int) (m : Int) (h0 : 0 < m) (hm : m ≤ 1073741824) : ∃ q : Int, 0 ≤ q ∧ q < m ∧ wrap64 ((IntKind.u64.wrap x).tmod m) = q := by
  obtain ⟨k, hk, e⟩ := rs_pick x m.toNat (by omega) (by omega)
  rw [show ((m.toNat : Nat) : Int) = m by omega] at e
  exact ⟨k, by omega, by omega, e⟩

set_option maxRecDepth 100000 in
set_option maxHeartbeats 4000000 in
theorem last_any (a0 : Option Addr) (len0 cap0 : Nat) (ls : List Wd) (x : Int) (w : World) (hr : WRow w a0 len0 ls) :
    Calls Try.prog 4 #[.slice a0 len0 cap0, .int .i64 x] w fun e w' => e = .returned (.bool true) ∧ Below w.heap.size w w' := by
  have HR0 := hid hr
  have HLEN := hid hr.cnt
  clear hr
  by_cases h1 : (32 : Int) < (len0 : Int)
  · go_enter Try.func4, Try.ntmps4
    go_wp2_with (go_at_call 7; go_must ((with_reducible refine (told14_any _).mono ?_); rintro e w1 ⟨rfl, hb1⟩))
    go_ret
    exact ⟨rfl, hb1⟩
  have HNW := hid (show Calls Try.prog 8 #[.int .i64 32] w (WNewRet w 32) from wNew_any 32 w)
  obtain ⟨q, q0, q1, eq⟩ := mod_pick x 40 (by decide) (by decide)
  go_enter Try.func4, Try.ntmps4
  go_upto_region 4 with (go_at_call 8; go_must ((with_reducible refine HNW.out.mono ?_); rintro e w1 ⟨b, rfl, hwb, hs, hb⟩; have HK0 := hid (WmAt.mk hs hwb hb); clear hs hb hwb HNW))
  go_upto_region 7 with fail
  rw [eq]
  clear eq
  go_wp2_with fail
  go_loopw [6, 7, 8] (fun wt hs i W => ∃ (j : Nat) (ws : List Wd), j ≤ len0 ∧ i = .int .i64 j ∧ ws.length ≤ j ∧ wt = .int .i64 (valL ws q) ∧ hs = .bool (hasL ws q) ∧ WmAt w b 32 ws 0 W) (fun _ _ i _ => len0 - (intOf i).toNat)
  case atStart => exact ⟨0, [], by omega, rfl, Nat.le_refl _, rfl, rfl, HK0.out⟩
  case round =>
    clear HK0
    obtain ⟨j, ws, hj, rfl, hwl, rfl, rfl, hR⟩ := hrel
    have HK := hid hR
    clear hR
    by_cases hlt : j < len0
    · obtain ⟨p, hp⟩ := word_at (ws := ls) (k := j) (by rw [HLEN.out]; exact hlt)
      obtain ⟨g, off, rfl, hg, hcs⟩ := (HR0.out.below HK.out.below).at (by omega)
      obtain ⟨y0, y1⟩ := hcs j p hp
      clear hcs
      have n1 : (0 : Int) ≤ (j : Int) := by omega
      have n2 : (j : Int) < (len0 : Int) := by omega
      obtain ⟨p1, p2⟩ := p
      obtain ⟨k, k0, k1, ek⟩ := mod_pick p1 40 (by decide) (by decide)
      obtain ⟨r1, r2, r3, r4, _⟩ := wput_room (R := 32) (ws := ws) p2 k0 (by omega)
      have HP := hid (fun (W : World) (h : WSet W b 32 ws 0) => (show Calls Try.prog 13 #[.pointer (some ⟨b, 0, none⟩), .int .i64 k, .int .i64 p2] W fun e w' => e = .returned (.bool true) ∧ WSet w' b 32 (wputL 32 ws k p2) 0 ∧ Wrote (fun j => j = b) W w' from by have := wPut_any k p2 b 32 ws 0 W h; unfold WPutRet at this; rwa [r1] at this))
      have H2 := hid (r2 q)
      have H3 := hid (r3 q)
      have H4 := hid r4
      have HPP := hid hp
      clear r1 r2 r3 r4 hp
      go_upto_region 12 with fail
      rw [ek]
      clear ek
      go_upto_region 14 with (go_at_call 13; go_must ((with_reducible refine (HP.out _ HK.out.set).mono ?_); rintro e w3 ⟨rfl, hs, hw⟩; have HK := hid (HK.out.put hs hw); clear hs hw))
      obtain ⟨g', off', e', hg', hcs⟩ := (HR0.out.below HK.out.below).at (by omega)
      simp only [Option.some.injEq, Addr.mk.injEq, and_true] at e'
      obtain ⟨rfl, rfl⟩ := e'
      obtain ⟨y0, y1⟩ := hcs j _ HPP.out
      clear hcs
      by_cases hkq : k = q
      · subst hkq
        have e3 := H3.out
        rw [if_pos rfl] at e3
        have e2 := H2.out
        rw [beq_self_eq_true, Bool.true_or] at e2
        have HE := hid e3
        have HE2 := hid e2
        clear H2 H3 e2 e3
        go_wp2_with fail
        go_roundw
        case rel => exact ⟨j + 1, _, by omega, by go_num, by have := H4.out; omega, by rw [HE.out], by rw [HE2.out], HK.out⟩
        case measure => simp [intOf]; omega
      · have e3 := H3.out
        rw [if_neg hkq] at e3
        have e2 := H2.out
        rw [show (k == q) = false by simpa using hkq, Bool.false_or] at e2
        have HE := hid e3
        have HE2 := hid e2
        clear H2 H3 e2 e3
        go_wp2_with fail
        go_roundw
        case rel => exact ⟨j + 1, _, by omega, by go_num, by have := H4.out; omega, by rw [HE.out], by rw [HE2.out], HK.out⟩
        case measure => simp [intOf]; omega
    · obtain rfl : j = len0 := by omega
      have HG := hid (fun (W : World) (h : WSet W b 32 ws 0) => (show Calls Try.prog 11 #[.pointer (some ⟨b, 0, none⟩), .int .i64 q] W fun e w' => e = .returned (.tuple #[.int .i64 (valL ws q), .bool (hasL ws q)]) ∧ WSet w' b 32 ws (askF ws q 0) ∧ Wrote (fun j => j = b) W w' from wGet_any q b 32 ws 0 W h (by decide)))
      generalize hasL ws q = hb at *
      generalize valL ws q = vl at *
      go_wp2_with (first
        | (go_at_call 7; go_must ((with_reducible refine (told14_any _).mono ?_); rintro e w2 ⟨rfl, hb2⟩; have HK := hid (HK.out.later hb2); clear hb2))
        | (go_at_call 11; go_must ((with_reducible refine (HG.out _ HK.out.set).mono ?_); rintro e w3 ⟨rfl, hs, hw⟩; have HK := hid (HK.out.put hs hw); clear hs hw)))
      go_ret
      exact ⟨by simp, HK.out.below⟩

end Go.Proofs.Ytdkjeggichgimaa
