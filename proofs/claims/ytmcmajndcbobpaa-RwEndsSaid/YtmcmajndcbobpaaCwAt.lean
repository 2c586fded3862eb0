/-
  A map, a memory and a crowd: what the laws on crowds keep; who holds the lock in plain words.
-/
import Derived.Test.YtmcmajndcbobpaaRwE
import Derived.Test.YtmcmajndcbobpaaHeldR
import Derived.Test.YtmcmajndcbobpaaTold10
namespace Go.Proofs.Ytmcmajndcbobpaa
open Go.RowKit
attribute [local go_sem] Later.cell Later.frozen

structure CwAt (w : World) (q qc b : Nat) (vw : Value) (s : MS) (hs : Nat → HD) (os : Nat → Bool) (ns : Nat → Int) (W : World) : Prop where
  mm : MapMem w q b vw s W
  cr : CrAt W qc hs os ns
  fr : ¬ MemS b vw qc
  ne : q ≠ qc
  c0 : w.heap.size ≤ qc
section
variable {w : World} {q qc b : Nat} {vw : Value} {s s' : MS} {hs hs' : Nat → HD} {os os' : Nat → Bool} {ns ns' : Nat → Int} {W W' : World}
theorem CwAt.later (k : CwAt w q qc b vw s hs os ns W) (h : Below W.heap.size W W') : CwAt w q qc b vw s hs os ns W' := ⟨k.mm.later h, k.cr.below h, k.fr, k.ne, k.c0⟩
theorem CwAt.step (k : CwAt w q qc b vw s hs os ns W) (hm : Mem W' w.heap.size b vw s') (hc : CrAt W' qc hs' os' ns') (hw : Wrote (fun j => MemS b vw j ∨ j = qc) W W') : CwAt w q qc b vw s' hs' os' ns' W' :=
  ⟨⟨(hw.block q k.mm.map.lt (fun h => h.elim k.mm.qm k.ne)).trans k.mm.map, hm, k.mm.qm, k.mm.q0, k.mm.below.trans (hw.below k.mm.below.size fun j hj h => by
    rcases h with h | h
    · exact k.mm.mem.old j hj h
    · have := k.c0; omega)⟩, hc, k.fr, k.ne, k.c0⟩
theorem CwAt.new (k : MapMem w q b vw s W) : CwAt w q W.heap.size b vw s (fun _ => h0) (fun _ => false) (fun _ => 0) (W.alloc (.cells crowd0 56)) :=
  ⟨k.later (bnew (bid W) _), CrAt.new W, fun h => absurd (k.mem.hold _ h) (Nat.lt_irrefl _), fun e => by have := k.map.lt; omega, k.below.size⟩
end

/-- All is as it should be in a crowd. -/
structure CrInv (s : MS) (hs : Nat → HD) (os : Nat → Bool) : Prop where
  rb : RB s hs
  si : ∃ q sw hd, SI 1 s (vh hs) (fun _ => 0) q sw hd
  hand : HandOK hs
  out : OutOKs hs os
theorem SI.again {R : Nat} {s : MS} {hs : Nat → HD} {n : Nat → Nat} {q sw hd : List Nat} (h : SI R s hs n q sw hd) : ∃ q sw hd, SI 1 s hs (fun _ => 0) q sw hd := by
  refine ⟨q, ?_⟩
  cases q with
  | nil => exact ⟨[], [], h.len, h.hand, h.pi.qi, fun _ _ => Nat.zero_le _, fun _ _ _ => Nat.zero_lt_one, rfl, rfl⟩
  | cons a r =>
    by_cases c : 5 < (VS.of s hs).st a
    · refine ⟨a :: r, [a], h.len, h.hand, h.pi.qi, fun _ _ => Nat.zero_le _, fun _ _ _ => Nat.zero_lt_one, ?_, ?_⟩
      · show (if 5 < (VS.of s hs).st a then a :: r = [a] ++ r else _)
        rw [if_pos c]; rfl
      · show 1 = 0 + (if 5 < (VS.of s hs).st a then 1 else 0)
        rw [if_pos c]
    · refine ⟨a :: r, [], h.len, h.hand, h.pi.qi, fun _ _ => Nat.zero_le _, fun _ _ _ => Nat.zero_lt_one, ?_, ?_⟩
      · show (if 5 < (VS.of s hs).st a then _ else a :: r = [] ++ a :: r)
        rw [if_neg c]; rfl
      · show 0 = 0 + (if 5 < (VS.of s hs).st a then 1 else 0)
        rw [if_neg c]
theorem zrow_at (p : Nat) : (MS.new (zrow 48)).zs.getD p 0 = 0 := by
  show (List.replicate 48 (0 : Int)).getD p 0 = 0
  rw [List.getD_eq_getElem?_getD, List.getElem?_replicate]
  split <;> rfl
theorem RB.start : RB (MS.new (zrow 48)) (fun _ => h0) :=
  ⟨fun _ _ => .inl ⟨by show (0 : Int) ≤ 0; decide, by show (0 : Int) ≤ 5; decide⟩, zrow_at 7, fun _ _ _ h => absurd h (by show ¬ (6 : Int) ≤ 0; decide)⟩
theorem QI.start0 : QI (VS.of (MS.new (zrow 48)) (vh fun _ => h0)) [] :=
  ⟨fun _ h => absurd h (by simp), by simp, fun _ _ _ => .inl rfl, zrow_at 4⟩
theorem CrInv.start : CrInv (MS.new (zrow 48)) (fun _ => h0) (fun _ => false) :=
  ⟨RB.start, ⟨[], [], [], zrow_len 48, fun _ _ => ⟨rfl, rfl⟩, QI.start0, fun _ _ => Nat.zero_le _, fun _ _ _ => Nat.zero_lt_one, rfl, rfl⟩, fun _ _ h => absurd rfl h, fun _ _ => rfl⟩
theorem CrInv.len {s : MS} {hs : Nat → HD} {os : Nat → Bool} (h : CrInv s hs os) : s.zs.length = 48 := by
  obtain ⟨_, _, _, k⟩ := h.si
  exact k.len
theorem CrInv.step {s : MS} {hs : Nat → HD} {os : Nat → Bool} (h : CrInv s hs os) {t : Nat} (ht : t < 4) (v : Int) (read leave : Bool) :
    CrInv (crStep s (hs t) (os t) v t read leave).s (upd hs t (crStep s (hs t) (os t) v t read leave).h) (updV os t (crStep s (hs t) (os t) v t read leave).o) := by
  obtain ⟨q, sw, hd, k⟩ := h.si
  obtain ⟨q', n', sw', hd', K, k1, k2, k3, k4, _⟩ := cr_step h.rb k h.hand h.out ht (fun _ => Nat.zero_lt_one) v read leave
  exact ⟨k1, k2.again, k3, k4⟩
theorem CrInv.alone {s : MS} {hs : Nat → HD} {os : Nat → Bool} (h : CrInv s hs os) : heldW hs 4 = 0 ∨ heldW hs 4 = 1 ∧ heldR hs 4 = 0 := by
  obtain ⟨q, sw, hd, k⟩ := h.si
  have key : ∀ i j, i < 4 → j < 4 → i ≠ j → ((hs i).s = 9 ∧ (hs i).rd = false) → ((hs j).s = 9 ∧ (hs j).rd = false) → False := fun i j hi hj hne a b => by
    have a' : 5 < (VS.of s (vh hs)).st i := by rw [vst, mst_wr a.2 (by omega)]; omega
    have b' : 5 < (VS.of s (vh hs)).st j := by rw [vst, mst_wr b.2 (by omega)]; omega
    obtain ⟨r, hr⟩ := k.pi.qi.first hi a'
    obtain ⟨r', hr'⟩ := k.pi.qi.first hj b'
    rw [hr] at hr'
    simp at hr'
    exact hne hr'.1
  have none : ∀ i, i < 4 → ((hs i).s = 9 ∧ (hs i).rd = false) → heldR hs 4 = 0 := fun i hi a => by
    have hz := h.rb.wr i hi a.2 (by omega) (by omega)
    have nr : ∀ j, j < 4 → ¬ ((hs j).s = 9 ∧ (hs j).rd = true) := fun j hj c => by
      have := sum4_get fin hs hj
      have h1 : fin (hs j) = 1 := if_pos ⟨c.2, .inl c.1⟩
      omega
    simp only [heldR, if_neg (nr 0 (by omega)), if_neg (nr 1 (by omega)), if_neg (nr 2 (by omega)), if_neg (nr 3 (by omega))]
  by_cases c0 : (hs 0).s = 9 ∧ (hs 0).rd = false
  · refine .inr ⟨?_, none 0 (by omega) c0⟩
    simp only [heldW, if_pos c0, if_neg (fun c => key 0 1 (by omega) (by omega) (by omega) c0 c), if_neg (fun c => key 0 2 (by omega) (by omega) (by omega) c0 c), if_neg (fun c => key 0 3 (by omega) (by omega) (by omega) c0 c)]
  · by_cases c1 : (hs 1).s = 9 ∧ (hs 1).rd = false
    · refine .inr ⟨?_, none 1 (by omega) c1⟩
      simp only [heldW, if_neg c0, if_pos c1, if_neg (fun c => key 1 2 (by omega) (by omega) (by omega) c1 c), if_neg (fun c => key 1 3 (by omega) (by omega) (by omega) c1 c)]
    · by_cases c2 : (hs 2).s = 9 ∧ (hs 2).rd = false
      · refine .inr ⟨?_, none 2 (by omega) c2⟩
        simp only [heldW, if_neg c0, if_neg c1, if_pos c2, if_neg (fun c => key 2 3 (by omega) (by omega) (by omega) c2 c)]
      · by_cases c3 : (hs 3).s = 9 ∧ (hs 3).rd = false
        · refine .inr ⟨?_, none 3 (by omega) c3⟩
          simp only [heldW, if_neg c0, if_neg c1, if_neg c2, if_pos c3]
        · refine .inl ?_
          simp only [heldW, if_neg c0, if_neg c1, if_neg c2, if_neg c3]

end Go.Proofs.Ytmcmajndcbobpaa
