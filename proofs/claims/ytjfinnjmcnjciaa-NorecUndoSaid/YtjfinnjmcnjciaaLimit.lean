/-
  MemLimit, its walk.
-/
import Derived.Test.YtjfinnjmcnjciaaTold
namespace Go.Proofs.Ytjfinnjmcnjciaa
open Go.RowKit

theorem made_zeros {w : World} {B : Nat} {E : TypeId} {a : Option Addr} {n c : Nat} (h : w.ownsRow B E 1 (.slice a n c) n (madeCells (Value.int .i64 0).cells (n * 1)).toList) : IntRow w a n (List.replicate n 0) := by
  refine IntRow.of_own (B := B) (E := E) (c := c) ?_
  have e : (madeCells (Value.int .i64 0).cells (n * 1)).toList = (List.replicate n (0 : Int)).map (Value.int .i64) := by
    rw [show (Value.int .i64 0).cells = #[Value.int .i64 0] from rfl, toList_madeCells_one, Nat.mul_one, List.map_replicate]
  rw [← e]; exact h

theorem u64_nonneg (n : Int) : 0 ≤ IntKind.u64.wrap n := by
  simp only [IntKind.wrap, IntKind.signed, Bool.false_and]
  exact Int.emod_nonneg _ (by decide)

theorem len_made {w : World} {B b : Nat} {vw : Value} {m : Nat} (h : Mem w B b vw (MS.new (List.replicate (4094 + m) 0))) :
    Calls Try.prog 69 #[.pointer (some ⟨b, 0, none⟩)] w fun e w' => e = .returned (.int .i64 (4094 + (m : Int))) ∧ w = w' := by
  refine (Len_any w B b vw _ h).mono ?_
  rintro e w' ⟨he, hw⟩
  have e2 : ((MS.new (List.replicate (4094 + m) 0)).zs.length : Int) = 4094 + (m : Int) := by simp [MS.new]
  rw [e2] at he
  exact ⟨he, hw⟩

end Go.Proofs.Ytjfinnjmcnjciaa
