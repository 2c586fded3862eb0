/-
  slices.Clone at []int64, and what package mem makes and tells as a whole: New, All, Last.
-/
import Derived.Test.YtcnpflnfmndibaaMem
namespace Go.Proofs.Ytcnpflnfmndibaa
open Go.RowKit

theorem infoE : (Try.prog.info? 2).map (fun i => (i.zero, i.size, i.bytes)) = some (some (.int .i64 0), 1, 8) := by kernel_rfl

theorem news_of {w w' : World} {x : Addr} {len : Nat} {zs : List Int} (hlen : zs.length = len) (hc : ∀ j, j < len → w.cell? (x.add j) = some (.int .i64 (zs.getD j 0)))
    (hw : Below w.heap.size w w') : ∀ j u, (zs.map (Value.int .i64))[j]? = some u → w'.cell? (x.add j) = some u := by
  intro j u hu
  rw [List.getElem?_map, Option.map_eq_some_iff] at hu
  obtain ⟨z, hz, rfl⟩ := hu
  have hj : j < len := by rw [← hlen]; exact (List.getElem?_eq_some_iff.1 hz).1
  rw [hw.cell (World.block_lt_of_cell? w _ (hc j hj)), hc j hj]
  simp [hz]

end Go.Proofs.Ytcnpflnfmndibaa
