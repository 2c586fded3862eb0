/-
  calm: what is asked is asked, and nothing panics.
-/
import Derived.Test.YtblalejegjieaaaGreatDoorLater
import Derived.Defers
import Derived.Recover
namespace Go.Proofs.YtblalejegjieaaaGreatDoor
open Go.RowKit

theorem hush_idle (w : World) :
    CallsD Tryz.prog 80 #[] .returning w fun e u' w' => e = .returned (.tuple #[]) ∧ u' = .returning ∧ w' = w := by
  refine callsD_of_wpS Tryz.func80 rfl fun c₀ cs hu => ?_
  apply wpS_region
  simp [wpOpsS, go_sem, recoverD, hu, Tryz.ntmps80, Exit.thenS]
  cases c₀
  simp_all [bodyPostS, results, Tryz.results80]

theorem calm3 (g : FuncId) (a b c : Value) (w : World) (Q : World → Prop)
    (hr : (callFunc g #[a, b, c]).run Tryz.prog w = .ok (.enter g #[a, b, c]) w) (h : Calls Tryz.prog g #[a, b, c] w fun e w' => e = .returned (.tuple #[]) ∧ Q w') :
    Calls Tryz.prog 66 #[.func (.func g) #[] #[a, b, c]] w fun e w' => e = .returned (.tuple #[]) ∧ Q w' := by
  go_enter_defers Tryz.func66, Tryz.ntmps66
  go_wp2
  refine h.mono ?_
  rintro e w1 ⟨rfl, hq⟩
  go_wp2
  refine leaves_cons (f := 80) (args := #[]) (by simp) (by simp [go_sem]) ?_
  refine (hush_idle _).mono ?_
  rintro e u' w'' ⟨rfl, rfl, rfl⟩
  simp [Leaves, settle, results, Tryz.results66, go_sem]
  exact hq

theorem calm2 (g : FuncId) (a b : Value) (w : World) (Q : World → Prop)
    (hr : (callFunc g #[a, b]).run Tryz.prog w = .ok (.enter g #[a, b]) w) (h : Calls Tryz.prog g #[a, b] w fun e w' => e = .returned (.tuple #[]) ∧ Q w') :
    Calls Tryz.prog 66 #[.func (.func g) #[] #[a, b]] w fun e w' => e = .returned (.tuple #[]) ∧ Q w' := by
  go_enter_defers Tryz.func66, Tryz.ntmps66
  go_wp2
  refine h.mono ?_
  rintro e w1 ⟨rfl, hq⟩
  go_wp2
  refine leaves_cons (f := 80) (args := #[]) (by simp) (by simp [go_sem]) ?_
  refine (hush_idle _).mono ?_
  rintro e u' w'' ⟨rfl, rfl, rfl⟩
  simp [Leaves, settle, results, Tryz.results66, go_sem]
  exact hq

end Go.Proofs.YtblalejegjieaaaGreatDoor
