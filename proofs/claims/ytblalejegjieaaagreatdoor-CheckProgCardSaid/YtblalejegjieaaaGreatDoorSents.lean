/-
  The ten errors of the codes; New.
-/
import Derived.Test.YtblalejegjieaaaGreatDoorIs
namespace Go.Proofs.YtblalejegjieaaaGreatDoor
open Go.RowKit

/-- The codes' errors: that of code k lies at sb k. -/
structure Sents (w : World) (sb : Nat → Addr) : Prop where
  cells : w.cell? ⟨0, 0, none⟩ = some (errV 149 (sb 1)) ∧ w.cell? ⟨1, 0, none⟩ = some (errV 149 (sb 2)) ∧ w.cell? ⟨2, 0, none⟩ = some (errV 149 (sb 3)) ∧ w.cell? ⟨3, 0, none⟩ = some (errV 149 (sb 4)) ∧ w.cell? ⟨4, 0, none⟩ = some (errV 149 (sb 5)) ∧ w.cell? ⟨5, 0, none⟩ = some (errV 149 (sb 6)) ∧ w.cell? ⟨6, 0, none⟩ = some (errV 149 (sb 7)) ∧ w.cell? ⟨7, 0, none⟩ = some (errV 149 (sb 8)) ∧ w.cell? ⟨8, 0, none⟩ = some (errV 149 (sb 9)) ∧ w.cell? ⟨9, 0, none⟩ = some (errV 149 (sb 10))
  err : ∀ k, 1 ≤ k → k ≤ 10 → ErrAt w 149 (sb k)
  apart : ∀ j k, 1 ≤ j → j ≤ 10 → 1 ≤ k → k ≤ 10 → sb j = sb k → j = k
  low : 11 ≤ w.heap.size

theorem Sents.below {w w' : World} {sb : Nat → Addr} (h : Sents w sb) (hb : Below w.heap.size w w') : Sents w' sb := by
  obtain ⟨c1, c2, c3, c4, c5, c6, c7, c8, c9, c10⟩ := h.cells
  have l := h.low
  have k : ∀ {b : Nat} {v : Value}, w.cell? ⟨b, 0, none⟩ = some v → w'.cell? ⟨b, 0, none⟩ = some v := fun {b v} h => (hb.cell (p := ⟨b, 0, none⟩) (World.block_lt_of_cell? w _ h)).trans h
  exact ⟨⟨k c1, k c2, k c3, k c4, k c5, k c6, k c7, k c8, k c9, k c10⟩, fun j h1 h2 => (h.err j h1 h2).kept (Wrote.of_below hb (fun _ => False)) fun h => h, h.apart, Nat.le_trans l hb.size⟩

set_option maxRecDepth 100000 in
set_option maxHeartbeats 2000000 in
theorem New_any {w : World} {sb : Nat → Addr} (h : Sents w sb) (k : Nat) (h1 : 1 ≤ k) (h2 : k ≤ 10) :
    Calls Tryz.prog 29 #[.int .i64 (k : Int)] w fun e w' => e = .returned (errV 149 (sb k)) ∧ w' = w := by
  obtain ⟨c1, c2, c3, c4, c5, c6, c7, c8, c9, c10⟩ := h.cells
  clear h
  have : k = 1 ∨ k = 2 ∨ k = 3 ∨ k = 4 ∨ k = 5 ∨ k = 6 ∨ k = 7 ∨ k = 8 ∨ k = 9 ∨ k = 10 := by omega
  clear h1 h2
  rcases this with rfl | rfl | rfl | rfl | rfl | rfl | rfl | rfl | rfl | rfl
  · show Calls _ _ #[.int .i64 1] _ _
    go_enter Tryz.func29, Tryz.ntmps29
    go_wp2
    go_ret
    exact ⟨rfl, rfl⟩
  · show Calls _ _ #[.int .i64 2] _ _
    go_enter Tryz.func29, Tryz.ntmps29
    go_wp2
    go_ret
    exact ⟨rfl, rfl⟩
  · show Calls _ _ #[.int .i64 3] _ _
    go_enter Tryz.func29, Tryz.ntmps29
    go_wp2
    go_ret
    exact ⟨rfl, rfl⟩
  · show Calls _ _ #[.int .i64 4] _ _
    go_enter Tryz.func29, Tryz.ntmps29
    go_wp2
    go_ret
    exact ⟨rfl, rfl⟩
  · show Calls _ _ #[.int .i64 5] _ _
    go_enter Tryz.func29, Tryz.ntmps29
    go_wp2
    go_ret
    exact ⟨rfl, rfl⟩
  · show Calls _ _ #[.int .i64 6] _ _
    go_enter Tryz.func29, Tryz.ntmps29
    go_wp2
    go_ret
    exact ⟨rfl, rfl⟩
  · show Calls _ _ #[.int .i64 7] _ _
    go_enter Tryz.func29, Tryz.ntmps29
    go_wp2
    go_ret
    exact ⟨rfl, rfl⟩
  · show Calls _ _ #[.int .i64 8] _ _
    go_enter Tryz.func29, Tryz.ntmps29
    go_wp2
    go_ret
    exact ⟨rfl, rfl⟩
  · show Calls _ _ #[.int .i64 9] _ _
    go_enter Tryz.func29, Tryz.ntmps29
    go_wp2
    go_ret
    exact ⟨rfl, rfl⟩
  · show Calls _ _ #[.int .i64 10] _ _
    go_enter Tryz.func29, Tryz.ntmps29
    go_wp2
    go_ret
    exact ⟨rfl, rfl⟩

set_option maxRecDepth 100000 in
set_option maxHeartbeats 2000000 in
theorem New_none (w : World) (k : Int) (h : k < 1 ∨ 10 < k) :
    Calls Tryz.prog 29 #[.int .i64 k] w fun e w' => e = .returned .nilIface ∧ w' = w := by
  have n : ∀ j : Int, 1 ≤ j → j ≤ 10 → (k == j) = false := fun j a b => by simp; omega
  have n1 := n 1 (by decide) (by decide)
  have n2 := n 2 (by decide) (by decide)
  have n3 := n 3 (by decide) (by decide)
  have n4 := n 4 (by decide) (by decide)
  have n5 := n 5 (by decide) (by decide)
  have n6 := n 6 (by decide) (by decide)
  have n7 := n 7 (by decide) (by decide)
  have n8 := n 8 (by decide) (by decide)
  have n9 := n 9 (by decide) (by decide)
  have n10 := n 10 (by decide) (by decide)
  clear n h
  go_enter Tryz.func29, Tryz.ntmps29
  go_wp2
  go_ret
  exact ⟨rfl, rfl⟩

end Go.Proofs.YtblalejegjieaaaGreatDoor
