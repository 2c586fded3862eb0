/-
  vclock's Start and Over, the document's StartBump; whether two bumps are alike.
-/
import Derived.Test.YtjfinnjmcnjciaaBmp
namespace Go.Proofs.Ytjfinnjmcnjciaa
open Go.RowKit
attribute [local go_sem] Later.cell Later.frozen

/-- The bump that an engine makes by a clock. -/
def startF (e c : Int) : BD := if e = 2 then ⟨3, 0, 0, 0⟩ else if e = 1 ∧ c = 1 then ⟨1, 0, 0, 0⟩ else if e = 1 ∧ c = 2 then ⟨2, 0, 0, 0⟩ else b0
set_option maxHeartbeats 1000000 in
theorem Start_even (e c : Int) (w : World) (he : e = 2) :
    Calls Try.prog 92 #[.int .i64 e, .int .i64 c] w fun e w' => e = .returned (BD.mk 3 0 0 0).v ∧ Below w.heap.size w w' := by
  subst he
  obtain ⟨o0, o1, o2, o3, of⟩ := (BumpAt.new 119 w b0).facts
  go_enter Try.func92, Try.ntmps92
  go_wp2_with fail
  refine bodyPost_ret (v := (BD.mk 3 0 0 0).v) (by simp [results, Try.results92, go_sem, o0, o1, o2, o3, of]) rfl ?_
  exact ⟨rfl, bnew (bid w) _⟩
set_option maxHeartbeats 1000000 in
theorem Start_own (e c : Int) (w : World) (he : e = 1) (hc : c = 1) :
    Calls Try.prog 92 #[.int .i64 e, .int .i64 c] w fun e w' => e = .returned (BD.mk 1 0 0 0).v ∧ Below w.heap.size w w' := by
  subst he hc
  obtain ⟨o0, o1, o2, o3, of⟩ := (BumpAt.new 119 w b0).facts
  go_enter Try.func92, Try.ntmps92
  go_wp2_with fail
  refine bodyPost_ret (v := (BD.mk 1 0 0 0).v) (by simp [results, Try.results92, go_sem, o0, o1, o2, o3, of]) rfl ?_
  exact ⟨rfl, bnew (bid w) _⟩
set_option maxHeartbeats 1000000 in
theorem Start_join (e c : Int) (w : World) (he : e = 1) (hc : c = 2) :
    Calls Try.prog 92 #[.int .i64 e, .int .i64 c] w fun e w' => e = .returned (BD.mk 2 0 0 0).v ∧ Below w.heap.size w w' := by
  subst he hc
  obtain ⟨o0, o1, o2, o3, of⟩ := (BumpAt.new 119 w b0).facts
  go_enter Try.func92, Try.ntmps92
  go_wp2_with fail
  refine bodyPost_ret (v := (BD.mk 2 0 0 0).v) (by simp [results, Try.results92, go_sem, o0, o1, o2, o3, of]) rfl ?_
  exact ⟨rfl, bnew (bid w) _⟩
set_option maxHeartbeats 1000000 in
theorem Start_one (e c : Int) (w : World) (he : e = 1) (h1 : ¬ c = 1) (h2 : ¬ c = 2) :
    Calls Try.prog 92 #[.int .i64 e, .int .i64 c] w fun e w' => e = .returned (BD.mk 0 0 0 0).v ∧ Below w.heap.size w w' := by
  subst he
  obtain ⟨o0, o1, o2, o3, of⟩ := (BumpAt.new 119 w b0).facts
  go_enter Try.func92, Try.ntmps92
  go_wp2_with fail
  refine bodyPost_ret (v := (BD.mk 0 0 0 0).v) (by simp [results, Try.results92, go_sem, o0, o1, o2, o3, of]) rfl ?_
  exact ⟨rfl, bnew (bid w) _⟩
set_option maxHeartbeats 1000000 in
theorem Start_none (e c : Int) (w : World) (h1 : ¬ e = 2) (h2 : ¬ e = 1) :
    Calls Try.prog 92 #[.int .i64 e, .int .i64 c] w fun e w' => e = .returned (BD.mk 0 0 0 0).v ∧ Below w.heap.size w w' := by
  obtain ⟨o0, o1, o2, o3, of⟩ := (BumpAt.new 119 w b0).facts
  go_enter Try.func92, Try.ntmps92
  go_wp2_with fail
  refine bodyPost_ret (v := (BD.mk 0 0 0 0).v) (by simp [results, Try.results92, go_sem, o0, o1, o2, o3, of]) rfl ?_
  exact ⟨rfl, bnew (bid w) _⟩
theorem Start_any (e c : Int) (w : World) :
    Calls Try.prog 92 #[.int .i64 e, .int .i64 c] w fun r w' => r = .returned (startF e c).v ∧ Below w.heap.size w w' := by
  unfold startF
  by_cases he : e = 2
  · rw [if_pos he]; exact Start_even e c w he
  · rw [if_neg he]
    by_cases h1 : e = 1
    · by_cases c1 : c = 1
      · rw [if_pos ⟨h1, c1⟩]; exact Start_own e c w h1 c1
      · rw [if_neg (fun k => c1 k.2)]
        by_cases c2 : c = 2
        · rw [if_pos ⟨h1, c2⟩]; exact Start_join e c w h1 c2
        · rw [if_neg (fun k => c2 k.2)]; exact Start_one e c w h1 c1 c2
    · rw [if_neg (fun k => h1 k.1), if_neg (fun k => h1 k.1)]; exact Start_none e c w he h1

set_option maxHeartbeats 1000000 in
theorem Over_any (a b : Int) (w : World) :
    Calls Try.prog 139 #[.int .i64 a, .int .i64 b] w fun e w' => e = .returned (.bool (decide (a > b))) ∧ w = w' := by
  go_enter Try.func139, Try.ntmps139
  go_wp2_with fail
  go_ret
  exact ⟨rfl, rfl⟩

end Go.Proofs.Ytjfinnjmcnjciaa
