/-
  THE CONTRACTS of package reads: those that make, write, hand words or lists out.
-/
import Derived.Test.YtjfinnjmcnjciaaRdC
import Derived.Test.YtjfinnjmcnjciaaNlw
namespace Go.Proofs.Ytjfinnjmcnjciaa
open Go.RowKit
attribute [local go_sem] Later.cell Later.frozen

set_option maxHeartbeats 400000 in
theorem RdRoom_nil (k : Int) (w : World) : Calls Try.prog 78 #[.pointer none, .int .i64 k] w fun e w' => e = .returned (.bool false) ∧ Below w.heap.size w w' := by
  go_enter Try.func78, Try.ntmps78
  go_wp2_with fail
  go_quiet (fail)
  go_wp2_with fail
  go_ret
  exact ⟨rfl, rfl, rfl, rfl, Nat.le_refl _, fun _ _ => rfl⟩

set_option maxHeartbeats 400000 in
theorem RdRoom_any (k : Int) (b R : Nat) (ws : List Wd) (w : World) (h : SetAt w b R ws) :
    Calls Try.prog 78 #[.pointer (some ⟨b, 0, none⟩), .int .i64 k] w fun e w' => e = .returned (.bool (roomL R ws k)) ∧ Below w.heap.size w w' := by
  have HH := hid (fun (x : Later w) => RdHas_any k b R ws x.v (h.below x.below))
  obtain ⟨c0, c1, cf, _⟩ := h.facts
  have f0 := cf 0
  have f1 := cf 1
  have hlt := h.lt
  clear h cf
  by_cases hn : ws.length < R
  · have hx : roomL R ws k = true := by unfold roomL; rw [decide_eq_true hn, Bool.or_true]
    rw [hx]
    clear hx HH
    have n1 : (ws.length : Int) < (R : Int) := by omega
    generalize ws.length = n at *
    go_enter Try.func78, Try.ntmps78
    go_wp2_with fail
    go_quiet (fail)
    go_wp2_with fail
    go_ret
    exact ⟨rfl, rfl, rfl, rfl, Nat.le_refl _, fun _ _ => rfl⟩
  · have hx : roomL R ws k = hasL ws k := by unfold roomL; rw [decide_eq_false hn, Bool.or_false]
    rw [hx]
    clear hx
    have n1 : ¬ (ws.length : Int) < (R : Int) := by omega
    generalize ws.length = n at *
    go_enter Try.func78, Try.ntmps78
    go_wp2_with fail
    refine wp_region_later (by kernel_rfl) (by kernel_rfl) ?_
    repeat (go_big_quiet_step ((go_at_call 117; with_reducible exact later_call (HH.out _))))
    refine wpQuiet_nil ?_
    rintro _ ⟨x, rfl⟩
    go_wp2_with fail
    go_ret
    exact ⟨rfl, x.below⟩

set_option maxHeartbeats 400000 in
theorem RdClear_any (b R : Nat) (ws : List Wd) (w : World) (h : SetAt w b R ws) :
    Calls Try.prog 83 #[.pointer (some ⟨b, 0, none⟩)] w fun e w' => e = .returned (.tuple #[]) ∧ SetAt w' b R [] ∧ Wrote (fun k => k = b) w w' := by
  have H := hid h
  obtain ⟨c0, c1, cf, _⟩ := h.facts
  have f1 := cf 1
  clear h cf
  go_enter Try.func83, Try.ntmps83
  go_wp2
  go_end0
  exact ⟨rfl, H.out.clear, (Wrote.refl (fun k => k = b) w).setCell (fun _ => rfl) _⟩

/-- A room that is asked for, as it is then. -/
def capF (r : Int) : Nat := (min (max r 0) 32).toNat
theorem capF_le (r : Int) : capF r ≤ 32 := by unfold capF; omega
theorem capF_eq (r : Int) : ((capF r : Nat) : Int) = min (max r 0) 32 := by unfold capF; omega

def RdNewRet (w : World) (R : Nat) (e : Ending) (w' : World) : Prop := ∃ b, e = .returned (.pointer (some ⟨b, 0, none⟩)) ∧ w.heap.size ≤ b ∧ SetAt w' b R [] ∧ Below w.heap.size w w'

theorem Rdzero_set : ∃ z : Array Value, (∀ W, Sem.run Try.prog (zeroValue 152) W = .ok (.agg z) W) ∧ z.size = 66 ∧ z[1]? = some (.int .i64 0) ∧ ¬ z = #[] :=
  ⟨Array.replicate 66 (.int .i64 0), fun W => by kernel_rfl, by kernel_rfl, by kernel_rfl, by decide⟩
theorem RdNewRet.of {w : World} {z : Array Value} {r s : Int} (hz : z.size = 66) (h1 : z[1]? = some (.int .i64 0)) (hr : ((capF r : Nat) : Int) = s) :
    RdNewRet w (capF r) (.returned (.pointer (some ⟨w.heap.size, 0, none⟩))) (w.alloc (.cells (z.setIfInBounds 0 (.int .i64 s)) 152)) := by
  subst hr
  refine ⟨_, rfl, Nat.le_refl _, SetAt.new w (capF r) (capF_le r) _ (by simp [hz]) (Array.getElem?_setIfInBounds_self_of_lt (by omega)) ?_, bnew (bid w) _⟩
  rw [Array.getElem?_setIfInBounds_ne (by omega)]
  exact h1
set_option maxHeartbeats 400000 in
theorem RdNew_any (r : Int) (w : World) : Calls Try.prog 98 #[.int .i64 r] w (RdNewRet w (capF r)) := by
  have HC := hid (capF_eq r)
  obtain ⟨z, hz, z66, z1, zne⟩ := Rdzero_set
  go_enter Try.func98, Try.ntmps98
  go_wp2
  all_goals
    go_ret
    exact RdNewRet.of z66 z1 (by rw [HC.out]; omega)

/-- Where At stands behind its test. -/
structure RdAAt (w : World) (b R : Nat) (ws : List Wd) (W : World) : Prop where
  set : SetAt W b R ws
  box : W.heap[w.heap.size]? = some (.cells #[.int .i64 0, .int .i64 0] 51 (0, 0))
  below : Below w.heap.size w W
theorem RdAAt.new {w w1 : World} {b R : Nat} {ws : List Wd} (h : SetAt w b R ws) (hb : Below (w.alloc (.cells #[.int .i64 0, .int .i64 0] 51)).heap.size (w.alloc (.cells #[.int .i64 0, .int .i64 0] 51)) w1) : RdAAt w b R ws w1 :=
  ⟨(h.below (bnew (bid w) _)).below hb, (hb.block _ (by rw [size_alloc1]; omega)).trans (heap_alloc_new _ _), bthen (bnew (bid w) _) hb⟩
theorem infoW : (Try.prog.info? 51).map (·.size) = some 2 := by kernel_rfl
theorem RdAt_ret {W : World} {g : Nat} {tmps : Array Value} {p : Wd} (hg : W.heap[g]? = some (.cells #[.int .i64 p.1, .int .i64 p.2] 51 (0, 0))) (ht : tmps.getD 4 undef = .pointer (some ⟨g, 0, none⟩)) :
    (results Try.f110 tmps).run Try.prog W = .ok (wv p) W :=
  results_cell_row (p := 4) (ty := 51) (by kernel_rfl) _ _ g 51 _ (0, 0) _ ht hg Try.underlying51 rfl infoW

set_option maxHeartbeats 400000 in
theorem RdAt_any (i : Nat) (p : Wd) (b R : Nat) (ws : List Wd) (w : World) (h : SetAt w b R ws) (hp : ws[i]? = some p) :
    Calls Try.prog 110 #[.pointer (some ⟨b, 0, none⟩), .int .i64 i] w fun e w' => e = .returned (wv p) ∧ Below w.heap.size w w' := by
  have HL := hid (fun (W : World) (h : SetAt W b R ws) => RdLen_any b R ws W h)
  have H := hid h
  have hi := (List.getElem?_eq_some_iff.1 hp).1
  have HP := hid hp
  have hR := Nat.le_trans h.len h.room
  have i0 : (0 : Int) ≤ (i : Int) := by omega
  have i1 : (i : Int) < (ws.length : Int) := by omega
  have i2 : (i : Int) < 32 := by omega
  clear h hp
  generalize ws.length = n at *
  go_enter Try.func110, Try.ntmps110
  go_upto_region 1 with fail
  go_upto_if 12 with (go_at_call 135; go_must (with_reducible refine (HL.out _ (H.out.below (bnew (bid w) _))).mono ?_; rintro e w1 ⟨rfl, hb⟩; have HB := hid hb; clear hb))
  refine wp_renamed _ (RdAAt.new H.out HB.out) ?_
  clear HB HL
  intro W hk
  have HK := hid hk
  clear hk
  obtain ⟨c0, c1, cf, cw⟩ := HK.out.set.facts
  obtain ⟨q0, q1⟩ := cw i p HP.out
  have e0 := cell_of_blk HK.out.box 0
  have e1 := cell_of_blk HK.out.box 1
  have g0 := frozen_of_blk HK.out.box 0
  have g1 := frozen_of_blk HK.out.box 1
  clear c0 c1 cf cw
  obtain ⟨p1, p2⟩ := p
  go_wp2_with fail
  refine bodyPost_ret (RdAt_ret (p := ⟨p1, p2⟩) (blk_setCell (blk_setCell HK.out.box _ _) _ _) rfl) rfl ⟨rfl, ?_⟩
  exact (HK.out.below.setCell (Nat.le_refl _) _).setCell (Nat.le_refl _) _

set_option maxHeartbeats 400000 in
theorem RdAt_none (i : Int) (b R : Nat) (ws : List Wd) (w : World) (h : SetAt w b R ws) (hi : i < 0 ∨ (ws.length : Int) ≤ i) :
    Calls Try.prog 110 #[.pointer (some ⟨b, 0, none⟩), .int .i64 i] w fun e w' => e = .returned (wv (0, 0)) ∧ Below w.heap.size w w' := by
  have HL := hid (fun (W : World) (h : SetAt W b R ws) => RdLen_any b R ws W h)
  have H := hid h
  clear h
  rcases hi with hi | hi
  · clear HL
    go_enter Try.func110, Try.ntmps110
    go_wp2_with fail
    exact bodyPost_ret (RdAt_ret (p := (0, 0)) (heap_alloc_new _ _) rfl) rfl ⟨rfl, bnew (bid w) _⟩
  · have i1 : ¬ (i : Int) < (ws.length : Int) := by omega
    have i0 : ¬ (i : Int) < 0 := by omega
    generalize ws.length = n at *
    go_enter Try.func110, Try.ntmps110
    go_upto_region 1 with fail
    go_upto_if 12 with (go_at_call 135; go_must (with_reducible refine (HL.out _ (H.out.below (bnew (bid w) _))).mono ?_; rintro e w1 ⟨rfl, hb⟩; have HB := hid hb; clear hb))
    refine wp_renamed _ (RdAAt.new H.out HB.out) ?_
    clear HB HL
    intro W hk
    have HK := hid hk
    clear hk
    have e0 := cell_of_blk HK.out.box 0
    have e1 := cell_of_blk HK.out.box 1
    have g0 := frozen_of_blk HK.out.box 0
    have g1 := frozen_of_blk HK.out.box 1
    go_wp2_with fail
    refine bodyPost_ret (RdAt_ret (p := (0, 0)) (blk_setCell (blk_setCell HK.out.box _ _) _ _) rfl) rfl ⟨rfl, ?_⟩
    exact (HK.out.below.setCell (Nat.le_refl _) _).setCell (Nat.le_refl _) _

set_option maxHeartbeats 400000 in
theorem RdPut_nil (k v : Int) (w : World) : Calls Try.prog 138 #[.pointer none, .int .i64 k, .int .i64 v] w fun e w' => e = .returned (.bool false) ∧ Below w.heap.size w w' := by
  go_enter Try.func138, Try.ntmps138
  go_wp2_with (go_at_call 78; go_must (with_reducible refine (RdRoom_nil _ _).mono ?_; rintro e w1 ⟨rfl, hb⟩))
  go_ret
  exact ⟨rfl, hb⟩

/-- What Put comes to. -/
def RdPutRet (w : World) (b R : Nat) (ws : List Wd) (k v : Int) (e : Ending) (w' : World) : Prop := e = .returned (.bool (roomL R ws k)) ∧ SetAt w' b R (putL R ws k v) ∧ Wrote (fun j => j = b) w w'

/-- Where Put stands between its two stores. -/
structure RdPMid (w : World) (b R : Nat) (ws : List Wd) (k v : Int) (n : Nat) (W : World) : Prop where
  c1 : W.cell? ⟨b, 1, none⟩ = some (.int .i64 n)
  f1 : W.frozen? ⟨b, 1, none⟩ = false
  set : SetAt (W.setCell ⟨b, 1, none⟩ (.int .i64 ((n + 1 : Nat) : Int))) b R (ws ++ [(k, v)])
  wrote : Wrote (fun j => j = b) w W
theorem RdPMid.of {w W : World} {b R : Nat} {ws : List Wd} (h : SetAt W b R ws) (k v : Int) (n : Nat) (hn : n = ws.length) (hR : n < R) (hb : Below w.heap.size w W) :
    RdPMid w b R ws k v n (((W.setCell ⟨b, 2 + n * 2, none⟩ (.int .i64 k)).setCell ⟨b, 2 + n * 2 + 1, none⟩ (.int .i64 v)).drew) := by
  subst hn
  have hp := h.put k v hR
  obtain ⟨cs, h0, _, _, h1, _⟩ := h.blk
  have hbk := blk_setCell (blk_setCell h0 (2 + ws.length * 2) (.int .i64 k)) (2 + ws.length * 2 + 1) (.int .i64 v)
  refine ⟨?_, frozen_of_blk hbk 1, hp.keep rfl, ((Wrote.of_below hb _).trans (((Wrote.refl (fun j => j = b) W).setCell (fun _ => rfl) _).setCell (fun _ => rfl) _)).drew⟩
  refine (cell_of_blk hbk 1).trans ?_
  rw [Array.getElem?_setIfInBounds_ne (by omega), Array.getElem?_setIfInBounds_ne (by omega)]
  exact h1
set_option maxHeartbeats 4000000 in
theorem RdPut_any (k v : Int) (b R : Nat) (ws : List Wd) (w : World) (h : SetAt w b R ws) :
    Calls Try.prog 138 #[.pointer (some ⟨b, 0, none⟩), .int .i64 k, .int .i64 v] w (RdPutRet w b R ws k v) := by
  have HRM := hid (fun (W : World) (h : SetAt W b R ws) => RdRoom_any k b R ws W h)
  have HHS := hid (fun (W : World) (h : SetAt W b R ws) => RdHas_any k b R ws W h)
  have H := hid h
  clear h
  cases hh : hasL ws k with
  | true =>
    have hr : roomL R ws k = true := by unfold roomL; rw [hh]; rfl
    have HF := hid (show ∀ w', Below w.heap.size w w' → RdPutRet w b R ws k v (.returned (.bool true)) w' from fun w' hb => ⟨by rw [hr], by rw [putL_there v hh]; exact H.out.below hb, Wrote.of_below hb _⟩)
    simp only [hr, hh] at HRM HHS
    clear hr hh
    go_enter Try.func138, Try.ntmps138
    go_wp2_with (first | (go_at_call 78; go_must (with_reducible refine (HRM.out _ H.out).mono ?_; rintro e w1 ⟨rfl, hb⟩; have HB := hid hb; clear hb)) | (go_at_call 117; go_must (with_reducible refine (HHS.out _ (H.out.below HB.out)).mono ?_; rintro e w2 ⟨rfl, hb⟩; have HB2 := hid hb; clear hb)))
    go_ret
    exact HF.out _ (bthen HB.out HB2.out)
  | false =>
    by_cases hn : ws.length < R
    · have hr : roomL R ws k = true := by unfold roomL; rw [hh, decide_eq_true hn]; rfl
      have HF := hid (show ∀ W w', Below w.heap.size w W → SetAt w' b R (ws ++ [(k, v)]) → Wrote (fun j => j = b) W w' → RdPutRet w b R ws k v (.returned (.bool true)) w' from fun W w' hb hs hw => ⟨by rw [hr], by rw [putL_new v hh hn]; exact hs, (Wrote.of_below hb _).trans hw⟩)
      simp only [hr, hh] at HRM HHS
      clear hr hh
      go_enter Try.func138, Try.ntmps138
      go_upto_region 3 with (go_at_call 78; go_must (with_reducible refine (HRM.out _ H.out).mono ?_; rintro e w1 ⟨rfl, hb⟩; have HB := hid hb; clear hb))
      go_upto_if 14 with (go_at_call 117; go_must (with_reducible refine (HHS.out _ (H.out.below HB.out)).mono ?_; rintro e w2 ⟨rfl, hb⟩; have HB2 := hid hb; clear hb))
      refine wp_renamed (fun W => SetAt W b R ws ∧ Below w.heap.size w W) ⟨H.out.below (bthen HB.out HB2.out), bthen HB.out HB2.out⟩ ?_
      clear HB HB2 HRM HHS H
      rintro W ⟨hk, hb⟩
      have HK := hid hk
      have HB := hid hb
      have hlt := hk.lt
      have hR := hk.room
      clear hk hb
      obtain ⟨c0, c1, cf, _⟩ := HK.out.facts
      have n0 : (0 : Int) ≤ (ws.length : Int) := by omega
      have n1 : (ws.length : Int) < 32 := by omega
      have HM := hid (RdPMid.of HK.out k v ws.length rfl hn HB.out)
      have f1 := cf 1
      have f2 := cf (2 + ws.length * 2)
      have f3 := cf (2 + ws.length * 2 + 1)
      obtain ⟨o0, c2⟩ := HK.out.cell (i := 2 + ws.length * 2) (by omega)
      obtain ⟨o1, c3⟩ := HK.out.cell (i := 2 + ws.length * 2 + 1) (by omega)
      clear cf
      generalize ws.length = n at *
      go_upto_region 4 with fail
      go_region
      generalize (((W.setCell ⟨b, 2 + n * 2, none⟩ (.int .i64 k)).setCell ⟨b, 2 + n * 2 + 1, none⟩ (.int .i64 v)).drew) = W2 at HM ⊢
      clear c0 c1 c2 c3 f1 f2 f3 HK HB
      obtain ⟨m1, m2, _, _⟩ := HM.out
      go_wp2_with fail
      go_ret
      exact HF.out _ _ (Below.refl _ _) HM.out.set (HM.out.wrote.setCell (fun _ => rfl) _)
    · have hr : roomL R ws k = false := by unfold roomL; rw [hh, decide_eq_false hn]; rfl
      have HF := hid (show ∀ w', Below w.heap.size w w' → RdPutRet w b R ws k v (.returned (.bool false)) w' from fun w' hb => ⟨by rw [hr], by rw [putL_full v hn]; exact H.out.below hb, Wrote.of_below hb _⟩)
      simp only [hr, hh] at HRM HHS
      clear hr hh
      go_enter Try.func138, Try.ntmps138
      go_wp2_with (go_at_call 78; go_must (with_reducible refine (HRM.out _ H.out).mono ?_; rintro e w1 ⟨rfl, hb⟩; have HB := hid hb; clear hb))
      go_ret
      exact HF.out _ HB.out

def keysL (ws : List Wd) : List Int := ws.map fun p => p.1
/-- What Keys hands out: a list of the call's own. -/
def RdKeysRet (w : World) (l : List Int) (e : Ending) (w' : World) : Prop := ∃ v, e = .returned v ∧ NL w' w.heap.size v l ∧ Below w.heap.size w w'

set_option maxHeartbeats 400000 in
theorem RdKeys_nil (w : World) : Calls Try.prog 64 #[.pointer none] w fun e w' => e = .returned (.slice none 0 0) ∧ w = w' := by
  go_enter Try.func64, Try.ntmps64
  go_wp2_with (go_at_call 102; (with_reducible refine (Rdlist_nil _).mono ?_); rintro e w' ⟨rfl, rfl⟩)
  go_loopw [3, 9] (fun v i W => v = .slice none 0 0 ∧ i = .int .i64 0 ∧ W = w) (fun _ _ _ => 0)
  case atStart => exact ⟨rfl, rfl, rfl⟩
  case round =>
    obtain ⟨rfl, rfl, rfl⟩ := hrel
    go_wp2
    go_ret
    exact ⟨rfl, rfl⟩

set_option maxHeartbeats 4000000 in
theorem RdKeys_any (b R : Nat) (ws : List Wd) (w : World) (h : SetAt w b R ws) :
    Calls Try.prog 64 #[.pointer (some ⟨b, 0, none⟩)] w (RdKeysRet w (keysL ws)) := by
  have H := hid h
  have HR := hid h.row
  obtain ⟨n, hn⟩ : ∃ n, n = ws.length := ⟨_, rfl⟩
  have HN := hid hn
  have hn32 : n ≤ 32 := by have := h.len; have := h.room; omega
  have HL := hid (fun (W : World) (h : SetAt W b R ws) => (show Calls Try.prog 102 #[.pointer (some ⟨b, 0, none⟩)] W fun e w' => e = .returned (.slice (some ⟨b, 2, none⟩) n 32) ∧ Below W.heap.size W w' from by have := Rdlist_any b R ws W h; rwa [← hn] at this))
  clear h hn
  go_enter Try.func64, Try.ntmps64
  go_wp2_with (go_at_call 102; go_must (with_reducible refine (HL.out _ H.out).mono ?_; rintro e w1 ⟨rfl, hb⟩; have HB := hid hb; clear hb))
  clear HL H
  go_loopw [3, 9] (fun v i W => ∃ j : Nat, j ≤ n ∧ i = .int .i64 j ∧ NL W w.heap.size v (keysL (ws.take j)) ∧ Below w.heap.size w W) (fun _ i _ => n - (intOf i).toNat)
  case atStart => exact ⟨0, by omega, rfl, NL.nil _ _, HB.out⟩
  case round =>
    clear HB
    obtain ⟨j, hj, rfl, hnl, hb⟩ := hrel
    have HNL := hid hnl
    have HB := hid hb
    clear hnl hb
    by_cases hlt : j < n
    · obtain ⟨p, hp⟩ := word_at (ws := ws) (k := j) (by rw [← HN.out]; exact hlt)
      obtain ⟨b', off, hbo, hbl, hcs⟩ := (HR.out.below HB.out).at (by rw [← HN.out]; omega)
      simp only [Option.some.injEq, Addr.mk.injEq, and_true] at hbo
      obtain ⟨rfl, rfl⟩ := hbo
      obtain ⟨cq0, cq1⟩ := hcs j p hp
      clear hcs
      have HE := hid (show keysL (ws.take (j + 1)) = keysL (ws.take j) ++ [p.1] from by rw [take_more hp]; unfold keysL; rw [List.map_append]; rfl)
      have HKL := hid (show (keysL (ws.take j)).length + 1 ≤ 1000 from by unfold keysL; rw [List.length_map, List.length_take]; omega)
      clear hp
      have n1 : (0 : Int) ≤ (j : Int) := by omega
      have n2 : (j : Int) < (n : Int) := by omega
      obtain ⟨p1, p2⟩ := p
      go_upto_region 5 with fail
      have HM := hid (show (wr.alloc (.cells #[.int .i64 p1, .int .i64 p2] 51)).cell? ⟨wr.heap.size, 0, none⟩ = some (.int .i64 p1) ∧ NL (wr.alloc (.cells #[.int .i64 p1, .int .i64 p2] 51)) w.heap.size u3 (keysL (ws.take j)) ∧ Below w.heap.size w (wr.alloc (.cells #[.int .i64 p1, .int .i64 p2] 51)) from
        ⟨cell_of_blk (heap_alloc_new _ _) 0, HNL.out.below (bnew (bid wr) _), bnew HB.out _⟩)
      refine wp_renamed (fun W => W.cell? ⟨wr.heap.size, 0, none⟩ = some (.int .i64 p1) ∧ NL W w.heap.size u3 (keysL (ws.take j)) ∧ Below w.heap.size w W) HM.out ?_
      clear HM HNL HB cq0 cq1
      generalize wr.heap.size = q
      rintro W2 ⟨d0, hnl, hb⟩
      have HNL := hid hnl
      have HB := hid hb
      clear hnl hb
      go_wp2_with (at_builtin; refine wpList_append_nl1 rfl (.tmp 13) (.tmp 16) rfl rfl HNL.out rfl rfl HKL.out HB.out.size ?_; intro v' w' hn' hb'; have HN2 := hid hn'; have HB2 := hid hb'; clear hn' hb')
      go_roundw
      case rel => exact ⟨j + 1, by omega, by go_num, by rw [HE.out]; exact HN2.out, HB.out.trans HB2.out⟩
      case measure => simp [intOf]; omega
    · obtain rfl : j = n := by omega
      go_wp2_with fail
      go_ret
      exact ⟨_, rfl, by have h := HNL.out; rw [HN.out, List.take_length] at h; exact h, HB.out⟩

end Go.Proofs.Ytjfinnjmcnjciaa
