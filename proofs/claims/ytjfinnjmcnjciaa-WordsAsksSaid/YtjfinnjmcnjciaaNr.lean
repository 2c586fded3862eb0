/-
  'Near' of layer 3.
-/
import Derived.Test.YtjfinnjmcnjciaaNode
namespace Go.Proofs.Ytjfinnjmcnjciaa
open Go.RowKit

theorem u64_pos (n : Int) : 0 ≤ IntKind.u64.wrap n := by
  simp only [IntKind.wrap, IntKind.signed, Bool.false_and]
  exact Int.emod_nonneg _ (by decide)

/-- The map that 'Near' makes of five numbers. -/
def near (k0 k1 k2 k3 k4 : Int) : PM := ⟨1 + IntKind.u64.wrap k0 % 16, IntKind.u64.wrap k1 % 5, 1 + IntKind.u64.wrap k2 % 4, IntKind.u64.wrap k3 % 5, IntKind.u64.wrap k4 % 33⟩
theorem near_ok (k0 k1 k2 k3 k4 : Int) : (near k0 k1 k2 k3 k4).Ok := by
  constructor <;> simp only [near] <;> omega

set_option maxHeartbeats 1000000 in
theorem Near_any (k0 k1 k2 k3 k4 : Int) (w : World) :
    Calls Try.prog 35 #[.agg #[.int .i64 k0, .int .i64 k1, .int .i64 k2, .int .i64 k3, .int .i64 k4]] w fun e w' => e = .returned (near k0 k1 k2 k3 k4).v ∧ Below w.heap.size w w' := by
  have h0 := u64_pos k0
  have h1 := u64_pos k1
  have h2 := u64_pos k2
  have h3 := u64_pos k3
  have h4 := u64_pos k4
  go_enter Try.func35, Try.ntmps35
  go_wp2
  exact bodyPost_ret (v := (near k0 k1 k2 k3 k4).v) (by simp [results, Try.results35, go_sem, near, PM.v]) rfl ⟨rfl, bnew (bnew (bid w) _) _⟩

end Go.Proofs.Ytjfinnjmcnjciaa
