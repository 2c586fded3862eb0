/-
  A map of two places, of one's own; comings and goings in plain numbers.
-/
import Derived.Test.YtjfinnjmcnjciaaWdP
import Derived.Maps.OwnOps
import Derived.Maps.OwnSet
import Derived.Maps.Views
import Derived.DataShut
namespace Go.Proofs.Ytjfinnjmcnjciaa
open Go.RowKit Go.Maps

def WdR : Value → Option (DataW Unit × List MemPlace)
  | .int .i64 a => some (.lit (.int .i64 a), [])
  | _ => none
theorem WdR_inv {v : Value} {z : DataW Unit × List MemPlace} (h : WdR v = some z) : ∃ a, v = .int .i64 a ∧ z = (.lit (.int .i64 a), []) := by
  unfold WdR at h
  split at h
  · exact ⟨_, rfl, (Option.some.inj h).symm⟩
  · cases h
theorem wd_keyed : Keyed Try.prog 3 := int_keyed Try.underlying3
theorem wd_zero (w : World) : (zeroValue 2).run Try.prog w = .ok (.int .i64 0) w := by kernel_rfl
theorem wd_key {a : Int} (h0 : 0 ≤ a) (h1 : a < 34) : keyOf Try.prog 3 (.int .i64 a) = some (.int .i64 a) := keyOf_int_mk Try.underlying3 (by
  rw [Lit.wf_int_iff]; show (-9223372036854775808 : Int) ≤ a ∧ a ≤ 9223372036854775807; omega)

/-- A map of the places 8 and 9, laid by n stores at most. -/
def CM (w : World) (b n : Nat) (va vb : Int) : Prop := ∃ D : DataW Unit, w.ownsMap Try.prog 3 WdR b n D ∧ D.atKey (.int .i64 8) (.lit (.int .i64 0)) = .lit (.int .i64 va) ∧ D.atKey (.int .i64 9) (.lit (.int .i64 0)) = .lit (.int .i64 vb)
theorem CM.made (w : World) : CM (w.alloc (.map #[] 0)) w.heap.size 0 0 0 := ⟨_, World.ownsMap_made _ _ _ _, rfl, rfl⟩
theorem CM.lt {w : World} {b n : Nat} {va vb : Int} (h : CM w b n va vb) : b < w.heap.size := by
  obtain ⟨D, h, _⟩ := h
  exact World.ownsMap.lt h
theorem CM.same {w w' : World} {b n : Nat} {va vb : Int} (h : CM w b n va vb) (hb : w'.heap[b]? = w.heap[b]?) : CM w' b n va vb := by
  obtain ⟨D, ⟨es, clock, h1, F, hs, hD⟩, h2, h3⟩ := h
  exact ⟨D, ⟨es, clock, hb.trans h1, F, hs, hD⟩, h2, h3⟩
theorem CM.below {w w' : World} {b n : Nat} {va vb : Int} (h : CM w b n va vb) (hb : Below w.heap.size w w') : CM w' b n va vb := h.same (hb.block b h.lt)
theorem CM.look8 {w : World} {b n : Nat} {va vb : Int} (h : CM w b n va vb) : (Instr.lookup 38 (.map (some b)) (.int .i64 8) false).run Try.prog w = .ok (.int .i64 va) w := by
  obtain ⟨D, h, h2, h3⟩ := h
  obtain ⟨v, ps, r1, r2⟩ := World.ownsMap.lookup h wd_keyed Try.underlying38 (wd_zero w) (zd := .lit (.int .i64 0)) (zp := []) rfl (wd_key (a := 8) (by decide) (by decide))
  obtain ⟨c, rfl, hc⟩ := WdR_inv r2
  have h4 : (DataW.lit (.int .i64 va) : DataW Unit) = .lit (.int .i64 c) := by rw [← h2]; exact (Prod.mk.inj hc).1
  have h5 : va = c := by simpa using h4
  rw [r1, h5]
theorem CM.look9 {w : World} {b n : Nat} {va vb : Int} (h : CM w b n va vb) : (Instr.lookup 38 (.map (some b)) (.int .i64 9) false).run Try.prog w = .ok (.int .i64 vb) w := by
  obtain ⟨D, h, h2, h3⟩ := h
  obtain ⟨v, ps, r1, r2⟩ := World.ownsMap.lookup h wd_keyed Try.underlying38 (wd_zero w) (zd := .lit (.int .i64 0)) (zp := []) rfl (wd_key (a := 9) (by decide) (by decide))
  obtain ⟨c, rfl, hc⟩ := WdR_inv r2
  have h4 : (DataW.lit (.int .i64 vb) : DataW Unit) = .lit (.int .i64 c) := by rw [← h3]; exact (Prod.mk.inj hc).1
  have h5 : vb = c := by simpa using h4
  rw [r1, h5]
theorem CM.put8 {w : World} {b n : Nat} {va vb : Int} (h : CM w b n va vb) (hn : n ≤ 100) (v : Int) :
    ∃ w', (Instr.mapUpdate 38 (.map (some b)) (.int .i64 8) (.int .i64 v)).run Try.prog w = .ok () w' ∧ CM w' b (n + 1) v vb ∧ w.grownBy w' (some b) := by
  obtain ⟨D, h, h2, h3⟩ := h
  obtain ⟨w', r1, r2, r3⟩ := World.ownsMap.update h wd_keyed Try.underlying38 (by unfold maxLen; omega) (wd_key (a := 8) (by decide) (by decide)) (val := .int .i64 v) (d := .lit (.int .i64 v)) (ps := []) rfl
  refine ⟨w', r1, ⟨_, r2, ?_, ?_⟩, r3⟩
  · exact atKey_put_same (World.ownsMap.isMap h) (show WideAt.IsKeyLit (.int .i64 8) from True.intro) _ _
  · rw [atKey_put_other (fun h => by injection h with _ h; exact absurd h (by decide))]
    exact h3
theorem CM.put9 {w : World} {b n : Nat} {va vb : Int} (h : CM w b n va vb) (hn : n ≤ 100) (v : Int) :
    ∃ w', (Instr.mapUpdate 38 (.map (some b)) (.int .i64 9) (.int .i64 v)).run Try.prog w = .ok () w' ∧ CM w' b (n + 1) va v ∧ w.grownBy w' (some b) := by
  obtain ⟨D, h, h2, h3⟩ := h
  obtain ⟨w', r1, r2, r3⟩ := World.ownsMap.update h wd_keyed Try.underlying38 (by unfold maxLen; omega) (wd_key (a := 9) (by decide) (by decide)) (val := .int .i64 v) (d := .lit (.int .i64 v)) (ps := []) rfl
  refine ⟨w', r1, ⟨_, r2, ?_, ?_⟩, r3⟩
  · rw [atKey_put_other (fun h => by injection h with _ h; exact absurd h (by decide))]
    exact h2
  · exact atKey_put_same (World.ownsMap.isMap h) (show WideAt.IsKeyLit (.int .i64 9) from True.intro) _ _

/-- Who is there: a writer, readers; how many writers and readers ever came; behind i rounds. -/
structure MkI (i : Nat) (wr : Bool) (rd nw nr : Nat) : Prop where
  rd4 : rd ≤ 4
  apart : wr = true → rd = 0
  nwi : nw + nr ≤ i
  one : wr = true → 1 ≤ nw
  few : rd ≤ nr
def v8 (wr : Bool) (nw : Nat) : Int := 2 * (nw : Int) - (if wr = true then 1 else 0)
def v9 (rd nr : Nat) : Int := 64 * (nr : Int) + (rd : Int)
theorem MkI.zero : MkI 0 false 0 0 0 := ⟨by decide, fun _ => rfl, by decide, fun h => (by cases h), by decide⟩
section
variable {i rd nw nr : Nat} {wr : Bool}
theorem MkI.skip (h : MkI i wr rd nw nr) : MkI (i + 1) wr rd nw nr := ⟨h.rd4, h.apart, Nat.le_succ_of_le h.nwi, h.one, h.few⟩
theorem MkI.come (h : MkI i false rd nw nr) (h4 : rd < 4) : MkI (i + 1) false (rd + 1) nw (nr + 1) := ⟨by omega, fun h => (by cases h), by have := h.nwi; omega, fun h => (by cases h), by have := h.few; omega⟩
theorem MkI.left (h : MkI i false (rd + 1) nw nr) : MkI (i + 1) false rd nw nr := ⟨by have := h.rd4; omega, fun h => (by cases h), by have := h.nwi; omega, fun h => (by cases h), by have := h.few; omega⟩
theorem MkI.enter (h : MkI i false 0 nw nr) : MkI (i + 1) true 0 (nw + 1) nr := ⟨by decide, fun _ => rfl, by have := h.nwi; omega, fun _ => by omega, by omega⟩
theorem MkI.leave (h : MkI i true rd nw nr) : MkI (i + 1) false rd nw nr := ⟨h.rd4, fun h => (by cases h), Nat.le_succ_of_le h.nwi, fun h => (by cases h), h.few⟩
theorem v8_held (h : MkI i wr rd nw nr) : heldF 8 8 (v8 wr nw) = wr := by
  have h0 : heldF 8 8 (v8 wr nw) = decide (v8 wr nw % 2 = 1) := by simp [heldF]
  rw [h0]
  unfold v8
  cases wr with
  | true => rw [if_pos rfl, decide_eq_true_iff]; omega
  | false => rw [if_neg (by decide), decide_eq_false_iff_not]; omega
theorem v9_held (h : MkI i wr rd nw nr) : heldF 8 9 (v9 rd nr) = decide (0 < (rd : Int)) := by
  have h0 : heldF 8 9 (v9 rd nr) = decide (v9 rd nr % 64 ≠ 0) := by simp [heldF]
  have h4 := h.rd4
  rw [h0]
  unfold v9
  by_cases e : rd = 0
  · subst e
    rw [decide_eq_false (by simp), decide_eq_false (by omega)]
  · rw [decide_eq_true (by omega), decide_eq_true (by omega)]
theorem v8_come (h : MkI i false 0 nw nr) (hi : i ≤ 60) : wrap64 (v8 false nw + 1) = v8 true (nw + 1) := by
  have := h.nwi
  unfold v8 wrap64
  rw [if_neg (by decide), if_pos rfl]
  omega
theorem v8_left (h : MkI i true rd nw nr) (hi : i ≤ 60) : wrap64 (v8 true nw + 1) = v8 false nw := by
  have := h.nwi
  unfold v8 wrap64
  rw [if_pos rfl, if_neg (by decide)]
  omega
theorem v9_come (h : MkI i false rd nw nr) (hi : i ≤ 60) : wrap64 (v9 rd nr + 65) = v9 (rd + 1) (nr + 1) := by
  have := h.nwi
  have := h.rd4
  unfold v9 wrap64
  omega
theorem v9_left (h : MkI i false (rd + 1) nw nr) (hi : i ≤ 60) : wrap64 (v9 (rd + 1) nr + -1) = v9 rd nr := by
  have := h.nwi
  have := h.rd4
  unfold v9 wrap64
  omega
theorem v_zero (h : MkI i wr rd nw nr) : (v8 wr nw = 0 ∧ v9 rd nr = 0) ↔ nw + nr = 0 := by
  have h4 := h.rd4
  have h5 := h.few
  have h6 := h.one
  unfold v8 v9
  cases wr with
  | true => rw [if_pos rfl]; have := h6 rfl; omega
  | false => rw [if_neg (by decide)]; omega
end

end Go.Proofs.Ytjfinnjmcnjciaa
