/-
  THE CONTRACTS of package writes: those that make and write.
-/
import Derived.Test.YtjfinnjmcnjciaaWrC
namespace Go.Proofs.Ytjfinnjmcnjciaa
open Go.RowKit
attribute [local go_sem] Later.cell Later.frozen

def WNewRet (w : World) (R : Nat) (e : Ending) (w' : World) : Prop := ∃ b, e = .returned (.pointer (some ⟨b, 0, none⟩)) ∧ w.heap.size ≤ b ∧ WSet w' b R [] 0 ∧ Below w.heap.size w w'
theorem zero_wset : ∃ z : Array Value, (∀ W, Sem.run Try.prog (zeroValue 150) W = .ok (.agg z) W) ∧ z.size = 68 ∧ z[1]? = some (.int .i64 0) ∧ z[66]? = some (.int .u64 0) ∧ z[67]? = some (.int .i64 0) ∧ (∀ R : Nat, (z.setIfInBounds 0 (.int .i64 R)).all (·.oneCell') = true) ∧ ¬ z = #[] :=
  ⟨Array.replicate 66 (.int .i64 0) ++ #[.int .u64 0, .int .i64 0], fun W => by kernel_rfl, by kernel_rfl, by kernel_rfl, by kernel_rfl, by kernel_rfl, fun R => by kernel_rfl, by decide⟩
theorem WNewRet.of {w : World} {z : Array Value} {r s : Int} (hz : z.size = 68) (h1 : z[1]? = some (.int .i64 0)) (h2 : z[66]? = some (.int .u64 0)) (h3 : z[67]? = some (.int .i64 0)) (hr : ((capF r : Nat) : Int) = s) :
    WNewRet w (capF r) (.returned (.pointer (some ⟨w.heap.size, 0, none⟩))) (w.alloc (.cells (z.setIfInBounds 0 (.int .i64 s)) 150)) := by
  subst hr
  refine ⟨_, rfl, Nat.le_refl _, WSet.fresh (capF r) (capF_le r) _ (heap_alloc_new _ _) (by simp [hz]) (Array.getElem?_setIfInBounds_self_of_lt (by omega)) ?_ ?_ ?_, bnew (bid w) _⟩
  · rw [Array.getElem?_setIfInBounds_ne (by omega)]; exact h1
  · rw [Array.getElem?_setIfInBounds_ne (by omega)]; exact h2
  · rw [Array.getElem?_setIfInBounds_ne (by omega)]; exact h3
set_option maxHeartbeats 400000 in
theorem wNew_any (r : Int) (w : World) : Calls Try.prog 99 #[.int .i64 r] w (WNewRet w (capF r)) := by
  have HC := hid (capF_eq r)
  obtain ⟨z, hz, z68, z1, z2, z3, z4, zne⟩ := zero_wset
  clear z4
  go_enter Try.func99, Try.ntmps99
  go_wp2
  all_goals
    go_ret
    exact WNewRet.of z68 z1 z2 z3 (by rw [HC.out]; omega)

theorem infoS : (Try.prog.info? 150).map (·.size) = some 68 := by kernel_rfl
set_option maxHeartbeats 400000 in
theorem wClear_any (b R : Nat) (ws : List Wd) (n : Nat) (w : World) (h : WSet w b R ws n) :
    Calls Try.prog 84 #[.pointer (some ⟨b, 0, none⟩)] w fun e w' => e = .returned (.tuple #[]) ∧ WSet w' b R [] 0 ∧ Wrote (fun k => k = b) w w' := by
  obtain ⟨z, hz, z68, z1, z2, z3, z4, zne⟩ := zero_wset
  obtain ⟨c0, c1, _, _, cf, _⟩ := h.facts
  obtain ⟨cs, h0, hs, _⟩ := h.blk
  have HK := hid (setRow_heap w b cs (z.setIfInBounds 0 (.int .i64 R)) _ _ h0)
  have HO := hid (show Wrote (fun k => k = b) w (w.setRow b (z.setIfInBounds 0 (.int .i64 R))) from ⟨rfl, rfl, rfl, by simp [World.setRow], fun j _ hj => setRow_other w b j _ hj⟩)
  have HR := hid h.room
  have H0 := hid h0
  have HS := hid (show cs.size = (z.setIfInBounds 0 (.int .i64 R)).size by simp [hs, z68])
  have HI := hid (show (Try.prog.info? 150).map (·.size) = some (z.setIfInBounds 0 (.int .i64 R)).size by rw [infoS]; simp [z68])
  have HA := hid (z4 R)
  clear h h0 hs cf z4
  go_enter Try.func84, Try.ntmps84
  go_wp2_with (with_reducible refine wpList_store_row rfl 150 (.tmp 10) (.tmp 9) rfl b (z.setIfInBounds 0 (.int .i64 R)) rfl rfl 150 cs H0.out HI.out HS.out HA.out ?_)
  go_end0
  refine ⟨rfl, WSet.fresh R HR.out _ HK.out (by simp [z68]) (Array.getElem?_setIfInBounds_self_of_lt (by omega)) ?_ ?_ ?_, HO.out⟩
  · rw [Array.getElem?_setIfInBounds_ne (by omega)]; exact z1
  · rw [Array.getElem?_setIfInBounds_ne (by omega)]; exact z2
  · rw [Array.getElem?_setIfInBounds_ne (by omega)]; exact z3

set_option maxHeartbeats 400000 in
theorem wPut_nil (k v : Int) (w : World) : Calls Try.prog 134 #[.pointer none, .int .i64 k, .int .i64 v] w fun e w' => e = .returned (.bool false) ∧ w = w' := by
  go_enter Try.func134, Try.ntmps134
  go_wp2
  go_ret
  exact ⟨rfl, rfl⟩
set_option maxHeartbeats 400000 in
theorem wGet_nil (k : Int) (w : World) : Calls Try.prog 76 #[.pointer none, .int .i64 k] w fun e w' => e = .returned (.tuple #[.int .i64 0, .bool false]) ∧ w = w' := by
  go_enter Try.func76, Try.ntmps76
  go_wp2_with (go_at_call 115; (with_reducible refine (mayHave_nil _ _).mono ?_); rintro e w' ⟨rfl, rfl⟩)
  go_ret2
  exact ⟨rfl, rfl⟩

/-- What Get comes to. -/
def askF (ws : List Wd) (k : Int) (n : Nat) : Nat := if mayL ws k = true then n + 1 else n
def WGetRet (w : World) (b R : Nat) (ws : List Wd) (n : Nat) (k : Int) (e : Ending) (w' : World) : Prop :=
  e = .returned (.tuple #[.int .i64 (valL ws k), .bool (hasL ws k)]) ∧ WSet w' b R ws (askF ws k n) ∧ Wrote (fun j => j = b) w w'
theorem wrap_up {n : Nat} (h : n ≤ 100000) : wrap64 ((n : Int) + 1) = ((n + 1 : Nat) : Int) := by unfold wrap64; omega
set_option maxHeartbeats 4000000 in
theorem wGet_any (k : Int) (b R : Nat) (ws : List Wd) (n : Nat) (w : World) (h : WSet w b R ws n) (hn : n ≤ 100000) :
    Calls Try.prog 76 #[.pointer (some ⟨b, 0, none⟩), .int .i64 k] w (WGetRet w b R ws n k) := by
  have HM := hid (mayHave_any k b R ws n w h)
  have HW := hid (wrap_up hn)
  cases hm : mayL ws k with
  | false =>
    have hh := h.pos.may hm
    have HF := hid (show WGetRet w b R ws n k (.returned (.tuple #[.int .i64 0, .bool false])) w from ⟨by rw [valL_none ws k hh, hh], by unfold askF; rw [hm]; exact h, Wrote.refl _ _⟩)
    rw [hm] at HM
    clear h
    go_enter Try.func76, Try.ntmps76
    go_wp2_with (go_at_call 115; (with_reducible refine HM.out.mono ?_); rintro e w' ⟨rfl, rfl⟩)
    go_ret2
    exact HF.out
  | true =>
    rw [hm] at HM
    obtain ⟨c0, c1, c66, c67, cf, _⟩ := h.facts
    have f1 := cf 67
    clear c0 c1 c66 cf
    have HA := hid (show WSet (w.setCell ⟨b, 67, none⟩ (.int .i64 ((n : Int) + 1))) b R ws (n + 1) from h.ask)
    cases hh : hasL ws k with
    | false =>
      have HD := hid (fun (W : World) (h : WSet W b R ws (n + 1)) => (show Calls Try.prog 116 #[.pointer (some ⟨b, 0, none⟩), .int .i64 k] W fun e w' => e = .returned (.int .i64 (-1)) ∧ Below W.heap.size W w' from by have := pfind_any k b R ws (n + 1) W h; rwa [findF_none hh] at this))
      have HF := hid (fun (W w' : World) (hs : WSet W b R ws (n + 1)) (hw : Wrote (fun j => j = b) w W) (hb : Below W.heap.size W w') => (show WGetRet w b R ws n k (.returned (.tuple #[.int .i64 0, .bool false])) w' from ⟨by rw [valL_none ws k hh, hh], by unfold askF; rw [hm]; exact hs.below hb, hw.then (Wrote.of_below hb (fun _ => False)) (fun _ _ h => h.elim)⟩))
      have HWR := hid ((Wrote.refl (fun j => j = b) w).setCell (p := ⟨b, 67, none⟩) (fun _ => rfl) (.int .i64 ((n : Int) + 1)))
      clear h hh hm
      go_enter Try.func76, Try.ntmps76
      go_upto_region 4 with (go_at_call 115; (with_reducible refine HM.out.mono ?_); rintro e w' ⟨rfl, rfl⟩)
      go_wp2_with (go_at_call 116; go_must ((with_reducible refine (HD.out _ HA.out).mono ?_); rintro e w1 ⟨rfl, hb⟩; have HB := hid hb; clear hb))
      go_ret2
      exact HF.out _ _ HA.out HWR.out HB.out
    | true =>
      obtain ⟨i, p, hi, hp, hpk, hf⟩ := find_spec hh
      have hv := valL_at ws i p k hp hpk hf
      have HD := hid (fun (W : World) (h : WSet W b R ws (n + 1)) => (show Calls Try.prog 116 #[.pointer (some ⟨b, 0, none⟩), .int .i64 k] W fun e w' => e = .returned (.int .i64 i) ∧ Below W.heap.size W w' from by have := pfind_any k b R ws (n + 1) W h; rwa [hi] at this))
      have HF := hid (fun (W w' : World) (hs : WSet W b R ws (n + 1)) (hw : Wrote (fun j => j = b) w W) (hb : Below W.heap.size W w') => (show WGetRet w b R ws n k (.returned (.tuple #[.int .i64 p.2, .bool true])) w' from ⟨by rw [hv, hh], by unfold askF; rw [hm]; exact hs.below hb, hw.then (Wrote.of_below hb (fun _ => False)) (fun _ _ h => h.elim)⟩))
      have HWR := hid ((Wrote.refl (fun j => j = b) w).setCell (p := ⟨b, 67, none⟩) (fun _ => rfl) (.int .i64 ((n : Int) + 1)))
      have HP := hid hp
      have i0 : (0 : Int) ≤ (i : Int) := by omega
      have i1 : (i : Int) < 32 := by have := (List.getElem?_eq_some_iff.1 hp).1; have := h.len; have := h.room; omega
      clear h hh hm hv hi hpk hf hp
      go_enter Try.func76, Try.ntmps76
      go_upto_region 4 with (go_at_call 115; (with_reducible refine HM.out.mono ?_); rintro e w' ⟨rfl, rfl⟩)
      go_upto_region 6 with (go_at_call 116; go_must ((with_reducible refine (HD.out _ HA.out).mono ?_); rintro e w1 ⟨rfl, hb⟩; have HB := hid hb; clear hb))
      obtain ⟨p1, p2⟩ := p
      obtain ⟨q0, q1⟩ := (HA.out.below HB.out).facts.2.2.2.2.2 i _ HP.out
      clear c67 f1
      go_wp2_with fail
      go_ret2
      exact HF.out _ _ HA.out HWR.out HB.out

end Go.Proofs.Ytjfinnjmcnjciaa
