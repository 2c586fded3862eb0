/-
  Package text: get, fits.
-/
import Derived.Test.YtbobjhadckeieaaGreatDoorTTabs
namespace Go.Proofs.YtbobjhadckeieaaGreatDoor
open Go.RowKit
set_option linter.unusedVariables false

theorem shape_at (k : Nat) (hk : k < 23) (s : Shp) (hs : shps[k]? = some s) (W : World) : (Instr.index 119 (.agg shapesCs) (.int .i64 (k : Int))).run Tryz.prog W = .ok s.v W := by
  have : k = 0 ∨ k = 1 ∨ k = 2 ∨ k = 3 ∨ k = 4 ∨ k = 5 ∨ k = 6 ∨ k = 7 ∨ k = 8 ∨ k = 9 ∨ k = 10 ∨ k = 11 ∨ k = 12 ∨ k = 13 ∨ k = 14 ∨ k = 15 ∨ k = 16 ∨ k = 17 ∨ k = 18 ∨ k = 19 ∨ k = 20 ∨ k = 21 ∨ k = 22 := by omega
  rcases this with rfl | rfl | rfl | rfl | rfl | rfl | rfl | rfl | rfl | rfl | rfl | rfl | rfl | rfl | rfl | rfl | rfl | rfl | rfl | rfl | rfl | rfl | rfl
  all_goals
    obtain rfl := Option.some.inj hs
    show _ = _
    kernel_rfl

set_option maxHeartbeats 1000000 in
theorem get_any (i : Ins) (f : UInt8) (hf : f = 65 ∨ f = 66 ∨ f = 67 ∨ f = 78) (w : World) :
    Calls Tryz.prog 111 #[i.v, .int .i32 (f.toNat : Int)] w fun e w' => e = .returned (.int .i64 (getF i f)) ∧ Below w.heap.size w w' := by
  obtain ⟨op, a, b, c, n⟩ := i
  rcases hf with rfl | rfl | rfl | rfl
  all_goals
    show Calls _ _ #[.agg #[.int .i64 op, .int .i64 a, .int .i64 b, .int .i64 c, .int .i64 n], .int .i32 _] _ _
  · show Calls _ _ #[_, .int .i32 65] _ _
    go_enter Tryz.func111, Tryz.ntmps111
    go_wp2
    go_ret
    exact ⟨rfl, bnew (bid w) _⟩
  · show Calls _ _ #[_, .int .i32 66] _ _
    go_enter Tryz.func111, Tryz.ntmps111
    go_wp2
    go_ret
    exact ⟨rfl, bnew (bid w) _⟩
  · show Calls _ _ #[_, .int .i32 67] _ _
    go_enter Tryz.func111, Tryz.ntmps111
    go_wp2
    go_ret
    exact ⟨rfl, bnew (bid w) _⟩
  · show Calls _ _ #[_, .int .i32 78] _ _
    go_enter Tryz.func111, Tryz.ntmps111
    go_wp2
    go_ret
    exact ⟨rfl, bnew (bid w) _⟩

set_option maxHeartbeats 1000000 in
theorem fits_any (s : Shp) (i : Ins) (w : World) :
    Calls Tryz.prog 109 #[s.v, i.v] w fun e w' => e = .returned (.bool (sfits s i)) ∧ Below w.heap.size w w' := by
  obtain ⟨word, so, sb, fields⟩ := s
  obtain ⟨op, a, b, c, n⟩ := i
  show Calls _ _ #[.agg #[.string (bsOf word), .int .i64 so, .int .i64 sb, .string (bsOf fields)], .agg #[.int .i64 op, .int .i64 a, .int .i64 b, .int .i64 c, .int .i64 n]] _ _
  cases h1 : (so == op)
  case false =>
    have H := hid (show sfits ⟨word, so, sb, fields⟩ ⟨op, a, b, c, n⟩ = false by unfold sfits; rw [h1]; rfl)
    go_enter Tryz.func109, Tryz.ntmps109
    go_wp2
    go_ret
    exact ⟨by rw [H.out]; rfl, bnew (bnew (bid w) _) _⟩
  case true =>
    cases h2 : (sb == b)
    case true =>
      have H := hid (show sfits ⟨word, so, sb, fields⟩ ⟨op, a, b, c, n⟩ = true by unfold sfits; rw [h1, h2]; rfl)
      go_enter Tryz.func109, Tryz.ntmps109
      go_wp2
      go_ret
      exact ⟨by rw [H.out]; rfl, bnew (bnew (bid w) _) _⟩
    case false =>
      have H := hid (show sfits ⟨word, so, sb, fields⟩ ⟨op, a, b, c, n⟩ = hasB fields by unfold sfits; rw [h1, h2]; rfl)
      have HC := fun W => Tryz.strings_Contains_one (bsOf fields) 66 W
      rw [show (bsOf fields).data.toList = fields from rfl] at HC
      rw [show decide (0 ≤ Lib.indexByte fields 66) = hasB fields from rfl] at HC
      have HCC := hid HC
      clear HC
      rw [H.out]
      generalize hasB fields = r at HCC ⊢
      clear H
      go_enter Tryz.func109, Tryz.ntmps109
      go_wp2_with (go_at_call 124; refine (HCC.out _).mono ?_; rintro e w1 ⟨rfl, rfl⟩)
      go_ret
      exact ⟨rfl, bnew (bnew (bid w) _) _⟩

end Go.Proofs.YtbobjhadckeieaaGreatDoor
