/-
  A memory and the document's own, made together; whether both have done the same; the map of four threads and two locks.
-/
import Derived.Test.YtcnpflnfmndibaaHand
namespace Go.Proofs.Ytcnpflnfmndibaa
open Go.RowKit
attribute [local go_sem] Later.cell Later.frozen

/-- Four threads, two locks. -/
@[reducible] def mp4 : PM := ⟨2, 2, 4, 0, 2⟩
theorem mp4_ok : mp4.Ok := by decide
theorem mp4_size : mp4.size = 48 := by decide

theorem pRef_any (m : PM) (w : World) :
    Calls Try.prog 21 #[m.v] w fun e w' => e = .returned m.v ∧ Below w.heap.size w w' := by
  obtain ⟨s, l, t, c, d⟩ := m
  show Calls _ _ #[.agg #[.int .i64 s, .int .i64 l, .int .i64 t, .int .i64 c, .int .i64 d]] _ _
  go_enter Try.func21, Try.ntmps21
  go_wp2
  exact bodyPost_ret (v := (PM.mk s l t c d).v) (by simp [results, Try.results21, go_sem, PM.v]) rfl ⟨rfl, bnew (bnew (bid w) _) _⟩

/-- So many words, each 0. -/
def zrow (N : Nat) : List Int := List.replicate N 0
def sameA (k a v o : Int) (d : Bool) (k' a' v' o' : Int) (d' : Bool) : Bool := (k == k') && (a == a') && (v == v') && (o == o') && (d == d')
theorem sameA_refl (k a v o : Int) (d : Bool) : sameA k a v o d k a v o d = true := by simp [sameA]
end Go.Proofs.Ytcnpflnfmndibaa
