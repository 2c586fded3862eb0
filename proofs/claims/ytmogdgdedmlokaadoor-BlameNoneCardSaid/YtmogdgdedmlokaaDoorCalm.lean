/-
  calm: what is asked is asked, and nothing panics.
-/
import Derived.Test.YtmogdgdedmlokaaDoorLater
import Derived.Defers
import Derived.Recover
namespace Go.Proofs.YtmogdgdedmlokaaDoor
open Go.RowKit

theorem hush_idle (w : World) :
    CallsD Tryd.prog 74 #[] .returning w fun e u' w' => e = .returned (.tuple #[]) ∧ u' = .returning ∧ w' = w := by
  refine callsD_of_wpS Tryd.func74 rfl fun c₀ cs hu => ?_
  apply wpS_region
  simp [wpOpsS, go_sem, recoverD, hu, Tryd.ntmps74, Exit.thenS]
  cases c₀
  simp_all [bodyPostS, results, Tryd.results74]

theorem calm3 (g : FuncId) (a b c : Value) (w : World) (Q : World → Prop)
    (hr : (callFunc g #[a, b, c]).run Tryd.prog w = .ok (.enter g #[a, b, c]) w) (h : Calls Tryd.prog g #[a, b, c] w fun e w' => e = .returned (.tuple #[]) ∧ Q w') :
    Calls Tryd.prog 55 #[.func (.func g) #[] #[a, b, c]] w fun e w' => e = .returned (.tuple #[]) ∧ Q w' := by
  go_enter_defers Tryd.func55, Tryd.ntmps55
  go_wp2
  refine h.mono ?_
  rintro e w1 ⟨rfl, hq⟩
  go_wp2
  refine leaves_cons (f := 74) (args := #[]) (by simp) (by simp [go_sem]) ?_
  refine (hush_idle _).mono ?_
  rintro e u' w'' ⟨rfl, rfl, rfl⟩
  simp [Leaves, settle, results, Tryd.results55, go_sem]
  exact hq

theorem calm2 (g : FuncId) (a b : Value) (w : World) (Q : World → Prop)
    (hr : (callFunc g #[a, b]).run Tryd.prog w = .ok (.enter g #[a, b]) w) (h : Calls Tryd.prog g #[a, b] w fun e w' => e = .returned (.tuple #[]) ∧ Q w') :
    Calls Tryd.prog 55 #[.func (.func g) #[] #[a, b]] w fun e w' => e = .returned (.tuple #[]) ∧ Q w' := by
  go_enter_defers Tryd.func55, Tryd.ntmps55
  go_wp2
  refine h.mono ?_
  rintro e w1 ⟨rfl, hq⟩
  go_wp2
  refine leaves_cons (f := 74) (args := #[]) (by simp) (by simp [go_sem]) ?_
  refine (hush_idle _).mono ?_
  rintro e u' w'' ⟨rfl, rfl, rfl⟩
  simp [Leaves, settle, results, Tryd.results55, go_sem]
  exact hq

end Go.Proofs.YtmogdgdedmlokaaDoor
