/-
  vclock's Start and Over, the document's StartBump; whether two bumps are alike.
-/
import Derived.Test.YtkfajeimfpbfdaaBmp
namespace Go.Proofs.Ytkfajeimfpbfdaa
open Go.RowKit
attribute [local go_sem] Later.cell Later.frozen

/-- The bump that an engine makes by a clock. -/
def startF (e c : Int) : BD := if e = 2 then ⟨3, 0, 0, 0⟩ else if e = 1 ∧ c = 1 then ⟨1, 0, 0, 0⟩ else if e = 1 ∧ c = 2 then ⟨2, 0, 0, 0⟩ else b0
set_option maxHeartbeats 1000000 in
theorem Start_even (e c : Int) (w : World) (he : e = 2) :
    Calls Try.prog 20 #[.int .i64 e, .int .i64 c] w fun e w' => e = .returned (BD.mk 3 0 0 0).v ∧ Below w.heap.size w w' := by
  subst he
  obtain ⟨o0, o1, o2, o3, of⟩ := (BumpAt.new 23 w b0).facts
  go_enter Try.func20, Try.ntmps20
  go_wp2_with fail
  refine bodyPost_ret (v := (BD.mk 3 0 0 0).v) (by simp [results, Try.results20, go_sem, o0, o1, o2, o3, of]) rfl ?_
  exact ⟨rfl, bnew (bid w) _⟩
set_option maxHeartbeats 1000000 in
theorem Start_own (e c : Int) (w : World) (he : e = 1) (hc : c = 1) :
    Calls Try.prog 20 #[.int .i64 e, .int .i64 c] w fun e w' => e = .returned (BD.mk 1 0 0 0).v ∧ Below w.heap.size w w' := by
  subst he hc
  obtain ⟨o0, o1, o2, o3, of⟩ := (BumpAt.new 23 w b0).facts
  go_enter Try.func20, Try.ntmps20
  go_wp2_with fail
  refine bodyPost_ret (v := (BD.mk 1 0 0 0).v) (by simp [results, Try.results20, go_sem, o0, o1, o2, o3, of]) rfl ?_
  exact ⟨rfl, bnew (bid w) _⟩
set_option maxHeartbeats 1000000 in
theorem Start_join (e c : Int) (w : World) (he : e = 1) (hc : c = 2) :
    Calls Try.prog 20 #[.int .i64 e, .int .i64 c] w fun e w' => e = .returned (BD.mk 2 0 0 0).v ∧ Below w.heap.size w w' := by
  subst he hc
  obtain ⟨o0, o1, o2, o3, of⟩ := (BumpAt.new 23 w b0).facts
  go_enter Try.func20, Try.ntmps20
  go_wp2_with fail
  refine bodyPost_ret (v := (BD.mk 2 0 0 0).v) (by simp [results, Try.results20, go_sem, o0, o1, o2, o3, of]) rfl ?_
  exact ⟨rfl, bnew (bid w) _⟩
set_option maxHeartbeats 1000000 in
theorem Start_one (e c : Int) (w : World) (he : e = 1) (h1 : ¬ c = 1) (h2 : ¬ c = 2) :
    Calls Try.prog 20 #[.int .i64 e, .int .i64 c] w fun e w' => e = .returned (BD.mk 0 0 0 0).v ∧ Below w.heap.size w w' := by
  subst he
  obtain ⟨o0, o1, o2, o3, of⟩ := (BumpAt.new 23 w b0).facts
  go_enter Try.func20, Try.ntmps20
  go_wp2_with fail
  refine bodyPost_ret (v := (BD.mk 0 0 0 0).v) (by simp [results, Try.results20, go_sem, o0, o1, o2, o3, of]) rfl ?_
  exact ⟨rfl, bnew (bid w) _⟩
set_option maxHeartbeats 1000000 in
theorem Start_none (e c : Int) (w : World) (h1 : ¬ e = 2) (h2 : ¬ e = 1) :
    Calls Try.prog 20 #[.int .i64 e, .int .i64 c] w fun e w' => e = .returned (BD.mk 0 0 0 0).v ∧ Below w.heap.size w w' := by
  obtain ⟨o0, o1, o2, o3, of⟩ := (BumpAt.new 23 w b0).facts
  go_enter Try.func20, Try.ntmps20
  go_wp2_with fail
  refine bodyPost_ret (v := (BD.mk 0 0 0 0).v) (by simp [results, Try.results20, go_sem, o0, o1, o2, o3, of]) rfl ?_
  exact ⟨rfl, bnew (bid w) _⟩
theorem Start_any (e c : Int) (w : World) :
    Calls Try.prog 20 #[.int .i64 e, .int .i64 c] w fun r w' => r = .returned (startF e c).v ∧ Below w.heap.size w w' := by
  unfold startF
  by_cases he : e = 2
  · rw [if_pos he]; exact Start_even e c w he
  · rw [if_neg he]
    by_cases h1 : e = 1
    · by_cases c1 : c = 1
      · rw [if_pos ⟨h1, c1⟩]; exact Start_own e c w h1 c1
      · rw [if_neg (fun k => c1 k.2)]
        by_cases c2 : c = 2
        · rw [if_pos ⟨h1, c2⟩]; exact Start_join e c w h1 c2
        · rw [if_neg (fun k => c2 k.2)]; exact Start_one e c w h1 c1 c2
    · rw [if_neg (fun k => h1 k.1), if_neg (fun k => h1 k.1)]; exact Start_none e c w he h1

set_option maxHeartbeats 1000000 in
theorem StartBump_even (e c : Int) (w : World) (he : e = 2) :
    Calls Try.prog 21 #[.int .i64 e, .int .i64 c] w fun e w' => e = .returned (BD.mk 3 0 0 0).v ∧ Below w.heap.size w w' := by
  subst he
  obtain ⟨o0, o1, o2, o3, of⟩ := (BumpAt.new 36 w b0).facts
  go_enter Try.func21, Try.ntmps21
  go_wp2_with fail
  refine bodyPost_ret (v := (BD.mk 3 0 0 0).v) (by simp [results, Try.results21, go_sem, o0, o1, o2, o3, of]) rfl ?_
  exact ⟨rfl, bnew (bid w) _⟩
set_option maxHeartbeats 1000000 in
theorem StartBump_own (e c : Int) (w : World) (he : e = 1) (hc : c = 1) :
    Calls Try.prog 21 #[.int .i64 e, .int .i64 c] w fun e w' => e = .returned (BD.mk 1 0 0 0).v ∧ Below w.heap.size w w' := by
  subst he hc
  obtain ⟨o0, o1, o2, o3, of⟩ := (BumpAt.new 36 w b0).facts
  go_enter Try.func21, Try.ntmps21
  go_wp2_with fail
  refine bodyPost_ret (v := (BD.mk 1 0 0 0).v) (by simp [results, Try.results21, go_sem, o0, o1, o2, o3, of]) rfl ?_
  exact ⟨rfl, bnew (bid w) _⟩
set_option maxHeartbeats 1000000 in
theorem StartBump_join (e c : Int) (w : World) (he : e = 1) (hc : c = 2) :
    Calls Try.prog 21 #[.int .i64 e, .int .i64 c] w fun e w' => e = .returned (BD.mk 2 0 0 0).v ∧ Below w.heap.size w w' := by
  subst he hc
  obtain ⟨o0, o1, o2, o3, of⟩ := (BumpAt.new 36 w b0).facts
  go_enter Try.func21, Try.ntmps21
  go_wp2_with fail
  refine bodyPost_ret (v := (BD.mk 2 0 0 0).v) (by simp [results, Try.results21, go_sem, o0, o1, o2, o3, of]) rfl ?_
  exact ⟨rfl, bnew (bid w) _⟩
set_option maxHeartbeats 1000000 in
theorem StartBump_one (e c : Int) (w : World) (he : e = 1) (h1 : ¬ c = 1) (h2 : ¬ c = 2) :
    Calls Try.prog 21 #[.int .i64 e, .int .i64 c] w fun e w' => e = .returned (BD.mk 0 0 0 0).v ∧ Below w.heap.size w w' := by
  subst he
  obtain ⟨o0, o1, o2, o3, of⟩ := (BumpAt.new 36 w b0).facts
  go_enter Try.func21, Try.ntmps21
  go_wp2_with fail
  refine bodyPost_ret (v := (BD.mk 0 0 0 0).v) (by simp [results, Try.results21, go_sem, o0, o1, o2, o3, of]) rfl ?_
  exact ⟨rfl, bnew (bid w) _⟩
set_option maxHeartbeats 1000000 in
theorem StartBump_none (e c : Int) (w : World) (h1 : ¬ e = 2) (h2 : ¬ e = 1) :
    Calls Try.prog 21 #[.int .i64 e, .int .i64 c] w fun e w' => e = .returned (BD.mk 0 0 0 0).v ∧ Below w.heap.size w w' := by
  obtain ⟨o0, o1, o2, o3, of⟩ := (BumpAt.new 36 w b0).facts
  go_enter Try.func21, Try.ntmps21
  go_wp2_with fail
  refine bodyPost_ret (v := (BD.mk 0 0 0 0).v) (by simp [results, Try.results21, go_sem, o0, o1, o2, o3, of]) rfl ?_
  exact ⟨rfl, bnew (bid w) _⟩
theorem StartBump_any (e c : Int) (w : World) :
    Calls Try.prog 21 #[.int .i64 e, .int .i64 c] w fun r w' => r = .returned (startF e c).v ∧ Below w.heap.size w w' := by
  unfold startF
  by_cases he : e = 2
  · rw [if_pos he]; exact StartBump_even e c w he
  · rw [if_neg he]
    by_cases h1 : e = 1
    · by_cases c1 : c = 1
      · rw [if_pos ⟨h1, c1⟩]; exact StartBump_own e c w h1 c1
      · rw [if_neg (fun k => c1 k.2)]
        by_cases c2 : c = 2
        · rw [if_pos ⟨h1, c2⟩]; exact StartBump_join e c w h1 c2
        · rw [if_neg (fun k => c2 k.2)]; exact StartBump_one e c w h1 c1 c2
    · rw [if_neg (fun k => h1 k.1), if_neg (fun k => h1 k.1)]; exact StartBump_none e c w he h1

set_option maxHeartbeats 1000000 in
theorem Over_any (a b : Int) (w : World) :
    Calls Try.prog 22 #[.int .i64 a, .int .i64 b] w fun e w' => e = .returned (.bool (decide (a > b))) ∧ w = w' := by
  go_enter Try.func22, Try.ntmps22
  go_wp2_with fail
  go_ret
  exact ⟨rfl, rfl⟩

set_option maxHeartbeats 2000000 in
/-- A bump is like itself. -/
theorem like_yes (h : BD) (w : World) :
    Calls Try.prog 17 #[h.v, h.v] w fun e w' => e = .returned (.bool true) ∧ Below w.heap.size w w' := by
  have HA := hid ((BumpAt.new 23 w h).below (bnew (bid _) (.cells h.cells 36)))
  have HB := hid (BumpAt.new 36 (w.alloc (.cells h.cells 23)) h)
  obtain ⟨k, s, x, p⟩ := h
  obtain ⟨a0, a1, a2, a3, af⟩ := HA.out.facts
  obtain ⟨b0, b1, b2, b3, bf⟩ := HB.out.facts
  rw [size_alloc1] at b0 b1 b2 b3 bf
  clear HA HB
  show Calls _ _ #[.agg #[.int .i64 k, .int .i64 s, .int .i64 x, .int .i64 p], .agg #[.int .i64 k, .int .i64 s, .int .i64 x, .int .i64 p]] _ _
  go_enter Try.func17, Try.ntmps17
  go_wp2_with fail
  go_ret
  exact ⟨rfl, bnew (bnew (bid w) _) _⟩

end Go.Proofs.Ytkfajeimfpbfdaa
