/-
  RwAsks: what stands where ahead of the memories: the hand, both maps, the words, the places, the row.
-/
import Derived.Test.YtmcmajndcbobpaaAsAt
import Derived.Test.YtmcmajndcbobpaaMcAt
import Derived.Test.YtmcmajndcbobpaaRwT
import Derived.Test.YtmcmajndcbobpaaRwRT
import Derived.Test.YtmcmajndcbobpaaTold10
namespace Go.Proofs.Ytmcmajndcbobpaa
open Go.RowKit
attribute [local go_sem] Later.cell Later.frozen

/-- Block q is n cells of these values. -/
def RowV (T : TypeId) (w : World) (q n : Nat) (vs : Nat → Value) : Prop := ∃ cs, w.heap[q]? = some (.cells cs T (0, 0)) ∧ cs.size = n ∧ ∀ k, k < n → cs[k]? = some (vs k)
section
variable {T : TypeId} {w w' : World} {q n : Nat} {vs : Nat → Value}
theorem RowV.lt (h : RowV T w q n vs) : q < w.heap.size := by
  obtain ⟨cs, h, _⟩ := h
  exact lt_of_block h
theorem RowV.kept {S : Nat → Prop} (k : RowV T w q n vs) (hw : Wrote S w w') (hs' : ¬ S q) : RowV T w' q n vs := by
  have hl := k.lt
  obtain ⟨cs, h, g⟩ := k
  exact ⟨cs, (hw.block q hl hs').trans h, g⟩
theorem RowV.below (k : RowV T w q n vs) (hb : Below w.heap.size w w') : RowV T w' q n vs := k.kept (Wrote.of_below hb (fun _ => False)) fun h => h
theorem RowV.facts (h : RowV T w q n vs) {k : Nat} (hk : k < n) : w.cell? ⟨q, k, none⟩ = some (vs k) ∧ (∀ i, w.frozen? ⟨q, i, none⟩ = false) := by
  obtain ⟨cs, hb, _, hc⟩ := h
  exact ⟨(cell_of_blk hb _).trans (hc k hk), fun i => frozen_of_blk hb i⟩
theorem RowV.six (w : World) (f : Nat → Value) : RowV T (w.alloc (.cells #[f 0, f 1, f 2, f 3, f 4, f 5] T)) w.heap.size 6 f := by
  refine ⟨_, heap_alloc_new _ _, rfl, fun k hk => ?_⟩
  have : k = 0 ∨ k = 1 ∨ k = 2 ∨ k = 3 ∨ k = 4 ∨ k = 5 := by omega
  rcases this with rfl | rfl | rfl | rfl | rfl | rfl <;> rfl
end
structure LwAt (w : World) (q qf qh gl qw qat : Nat) (h : HD) (xs : Nat → Int) (ps : Nat → Nat) (zs : List Int) (W : World) : Prop where
  ls : LsAt w q qf qh gl h zs W
  ws : RowV 22 W qw 6 fun k => .int .i64 (xs k)
  ats : RowV 3 W qat 6 fun k => .int .i64 (ps k : Nat)
  ne : qw ≠ gl ∧ qat ≠ gl
section
variable {w : World} {q qf qh gl qw qat : Nat} {h : HD} {xs : Nat → Int} {ps : Nat → Nat} {zs : List Int} {W W' : World}
theorem LwAt.later (k : LwAt w q qf qh gl qw qat h xs ps zs W) (hb : Below W.heap.size W W') : LwAt w q qf qh gl qw qat h xs ps zs W' := ⟨k.ls.later hb, k.ws.below hb, k.ats.below hb, k.ne⟩
theorem LwAt.store (k : LwAt w q qf qh gl qw qat h xs ps zs W) (i : Nat) (v : Int) : LwAt w q qf qh gl qw qat h xs ps (zs.set i v) (W.setCell ⟨gl, i, none⟩ (.int .i64 v)) := by
  have hw : Wrote (fun j => j = gl) W (W.setCell ⟨gl, i, none⟩ (.int .i64 v)) := (Wrote.refl (fun j => j = gl) W).setCell (p := ⟨gl, i, none⟩) (fun _ => rfl) _
  exact ⟨k.ls.store i v, k.ws.kept hw k.ne.1, k.ats.kept hw k.ne.2, k.ne⟩
end
theorem pick_of2 (z : Int) : ∃ k : Nat, k < 2 ∧ wrap64 ((IntKind.u64.wrap z).tmod 2) = (k : Int) := by
  have h := u64_from0 z
  generalize IntKind.u64.wrap z = u at *
  have e : u.tmod 2 = u % 2 := Int.tmod_eq_emod_of_nonneg h
  rw [e, wrap_small (by omega) (by omega)]
  exact ⟨(u % 2).toNat, by omega, by omega⟩
/-- The six places of the words. -/
def wpl (lk t : Nat) : Nat → Nat
  | 0 => 4 + 6 * lk
  | 1 => 7 + 6 * lk
  | 2 => 24 + 4 * t + 2 * lk
  | 3 => 25 + 4 * t + 2 * lk
  | 4 => 24 + 4 * ((t + 1) % 4) + 2 * lk
  | _ => 25 + 4 * ((t + 1) % 4) + 2 * lk
theorem wpl_lt {lk t : Nat} (hl : lk < 2) (ht : t < 4) (k : Nat) : wpl lk t k < 48 := by
  unfold wpl
  split <;> omega
theorem wpl_one {lk : Nat} (hl : lk < 2) (t : Nat) : mp4.at_ 3 lk 3 = ((wpl lk t 1 : Nat) : Int) := by
  rcases (show lk = 0 ∨ lk = 1 by omega) with rfl | rfl
  · show mp4.at_ 3 0 3 = 7
    decide
  · show mp4.at_ 3 1 3 = 13
    decide

end Go.Proofs.Ytmcmajndcbobpaa
