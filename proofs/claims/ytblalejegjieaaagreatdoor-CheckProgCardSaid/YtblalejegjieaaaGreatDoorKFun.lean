/-
  Package check: reads, writes; slices.IndexFunc and ContainsFunc over instructions.
-/
import Derived.Test.YtblalejegjieaaaGreatDoorKStd
namespace Go.Proofs.YtblalejegjieaaaGreatDoor
open Go.RowKit
set_option linter.unusedVariables false

set_option maxRecDepth 100000 in
theorem reads_any (x : Ins) (w : World) :
    Calls Tryz.prog 82 #[x.v] w fun e w' => e = .returned (.bool (readsB x)) ∧ Below w.heap.size w w' := by
  obtain ⟨op, a, b, c, n⟩ := x
  show Calls _ _ #[.agg #[.int .i64 op, .int .i64 a, .int .i64 b, .int .i64 c, .int .i64 n]] _ _
  go_enter Tryz.func82, Tryz.ntmps82
  go_wp2
  go_ret
  exact ⟨rfl, bnew (bid w) _⟩

set_option maxRecDepth 100000 in
theorem writes_any (x : Ins) (w : World) :
    Calls Tryz.prog 84 #[x.v] w fun e w' => e = .returned (.bool (!readsB x)) ∧ Below w.heap.size w w' := by
  obtain ⟨op, a, b, c, n⟩ := x
  have HR := hid (reads_any ⟨op, a, b, c, n⟩)
  show Calls _ _ #[.agg #[.int .i64 op, .int .i64 a, .int .i64 b, .int .i64 c, .int .i64 n]] _ _
  go_enter Tryz.func84, Tryz.ntmps84
  go_wp2_with (go_at_call 82; refine (HR.out _).mono ?_; rintro e w1 ⟨rfl, hb1⟩; have HB1 := hid hb1; clear hb1)
  go_ret
  exact ⟨rfl, bthen (bnew (bid w) _) HB1.out⟩

/-- The place of the first of which P is so; -1 without one. -/
def idxF (P : Ins → Bool) : List Ins → Nat → Int
  | [], _ => -1
  | x :: r, k => if P x = true then (k : Int) else idxF P r (k + 1)
theorem idxF_no {P : Ins → Bool} {x : Ins} {r : List Ins} {k : Nat} (h : P x = false) : idxF P (x :: r) k = idxF P r (k + 1) := by
  conv => lhs; unfold idxF
  simp [h]
theorem idxF_yes {P : Ins → Bool} {x : Ins} {r : List Ins} {k : Nat} (h : P x = true) : idxF P (x :: r) k = (k : Int) := by
  conv => lhs; unfold idxF
  simp [h]
theorem idxF_any (P : Ins → Bool) : ∀ (l : List Ins) (k : Nat), decide (0 ≤ idxF P l k) = l.any P := by
  intro l
  induction l with
  | nil => intro k; rfl
  | cons x r ih =>
    intro k
    unfold idxF
    rw [List.any_cons]
    cases h : P x
    · simp [ih]
    · simp
theorem idxF_find (P : Ins → Bool) : ∀ (l : List Ins) (k : Nat), (∀ x ∈ l, P x = false) ∧ idxF P l k = -1 ∧ l.find? P = none ∨ ∃ j x, l[j]? = some x ∧ P x = true ∧ idxF P l k = ((k + j : Nat) : Int) ∧ l.find? P = some x := by
  intro l
  induction l with
  | nil => intro k; exact .inl ⟨by simp, rfl, rfl⟩
  | cons x r ih =>
    intro k
    unfold idxF
    cases h : P x
    · rcases ih (k + 1) with ⟨h1, h2, h3⟩ | ⟨j, y, h1, h2, h3, h4⟩
      · exact .inl ⟨by intro y hy; rcases List.mem_cons.1 hy with rfl | hy; exact h; exact h1 y hy, by simpa using h2, by simp [h, h3]⟩
      · exact .inr ⟨j + 1, y, by simpa using h1, h2, by simp only [Bool.false_eq_true, if_false, h3]; congr 1; omega, by simp [h, h4]⟩
    · exact .inr ⟨0, x, rfl, h, by simp, by simp [h]⟩

set_option maxRecDepth 100000 in
set_option maxHeartbeats 1000000 in
theorem IndexFunc_any (P : Ins → Bool) (a : Option Addr) (n c : Nat) (ps : List Ins) (w : World) (hr : InsRow w a n ps) (hn : n ≤ 100000) (g : FuncId) (cap : Array Value)
    (hc : ∀ (W : World) (x : Value), (callFunc g (#[x] ++ cap)).run Tryz.prog W = .ok (.enter g (#[x] ++ cap)) W)
    (hf : ∀ x ∈ ps, ∀ W, Below w.heap.size w W → Calls Tryz.prog g (#[x.v] ++ cap) W fun e w' => e = .returned (.bool (P x)) ∧ Below W.heap.size W w') :
    Calls Tryz.prog 85 #[.slice a n c, .func (.func g) #[] cap] w fun e w' => e = .returned (.int .i64 (idxF P ps 0)) ∧ Below w.heap.size w w' := by
  have HF := hid hf
  have HR := hid hr
  clear hf hr
  go_enter Tryz.func85, Tryz.ntmps85
  go_wp2
  go_loopw [8] (fun i wr => ∃ k : Nat, k ≤ n ∧ i = .int .i64 k ∧ idxF P ps 0 = idxF P (ps.drop k) k ∧ Below w.heap.size w wr) (fun i _ => n - (intOf i).toNat)
  case atStart => exact ⟨0, Nat.zero_le _, rfl, rfl, bid w⟩
  case round =>
    obtain ⟨k, hk, rfl, hff, hb⟩ := hrel
    have HB := hid hb
    have HFF := hid hff
    clear hff hb
    by_cases hlt : k < n
    · have hll : k < ps.length := by rw [HR.out.cnt]; exact hlt
      obtain ⟨b, off, rfl, hbl, hcell⟩ := HR.out.at (by omega)
      have hI := (hcell k ps[k] (List.getElem?_eq_getElem hll)).keep (HB.out.block b hbl)
      have HD := hid (show ps.drop k = ps[k] :: ps.drop (k + 1) from List.drop_eq_getElem_cons hll)
      have HC := hid (HF.out ps[k] (List.getElem_mem hll) wr HB.out)
      generalize ps[k] = x at hI HD HC
      obtain ⟨op, ia, ib, ic, nn⟩ := x
      obtain ⟨c0, c1, c2, c3, c4⟩ := hI
      dsimp only at c0 c1 c2 c3 c4
      have i0 : (0 : Int) ≤ (k : Int) := by omega
      have i1 : (k : Int) < ((n : Nat) : Int) := by omega
      have hc1 := hc wr (Ins.mk op ia ib ic nn).v
      clear hcell hc
      cases hP : P ⟨op, ia, ib, ic, nn⟩
      · rw [hP] at HC
        have HX := hid (show idxF P (ps.drop k) k = idxF P (ps.drop (k + 1)) (k + 1) by rw [HD.out]; exact idxF_no hP)
        clear hP
        go_wp2
        refine HC.out.mono ?_
        rintro e w1 ⟨rfl, hb1⟩
        have HB1 := hid hb1
        clear hb1 hc1 c0 c1 c2 c3 c4
        dsimp only
        go_wp2
        go_roundw
        case rel => exact ⟨k + 1, by omega, by go_num, by rw [HFF.out, HX.out], bthen HB.out HB1.out⟩
        case measure => simp [intOf]; omega
      · rw [hP] at HC
        have HX := hid (show idxF P (ps.drop k) k = (k : Int) by rw [HD.out]; exact idxF_yes hP)
        clear hP
        go_wp2
        refine HC.out.mono ?_
        rintro e w1 ⟨rfl, hb1⟩
        have HB1 := hid hb1
        clear hb1 hc1 c0 c1 c2 c3 c4
        dsimp only
        go_wp2
        go_ret
        exact ⟨by rw [HFF.out, HX.out]; rfl, bthen HB.out HB1.out⟩
    · have e : k = n := by omega
      subst e
      clear hlt
      go_wp2
      go_ret
      refine ⟨?_, HB.out⟩
      rw [HFF.out, List.drop_eq_nil_of_le (by rw [HR.out.cnt]; exact Nat.le_refl _)]
      rfl

set_option maxRecDepth 100000 in
theorem ContainsFunc_any (P : Ins → Bool) (a : Option Addr) (n c : Nat) (ps : List Ins) (w : World) (hr : InsRow w a n ps) (hn : n ≤ 100000) (g : FuncId) (cap : Array Value)
    (hc : ∀ (W : World) (x : Value), (callFunc g (#[x] ++ cap)).run Tryz.prog W = .ok (.enter g (#[x] ++ cap)) W)
    (hf : ∀ x ∈ ps, ∀ W, Below w.heap.size w W → Calls Tryz.prog g (#[x.v] ++ cap) W fun e w' => e = .returned (.bool (P x)) ∧ Below W.heap.size W w') :
    Calls Tryz.prog 83 #[.slice a n c, .func (.func g) #[] cap] w fun e w' => e = .returned (.bool (ps.any P)) ∧ Below w.heap.size w w' := by
  have HI := hid (IndexFunc_any P a n c ps w hr hn g cap hc hf)
  have HA := hid (idxF_any P ps 0)
  clear hf hr hc
  generalize idxF P ps 0 = q at HI HA
  go_enter Tryz.func83, Tryz.ntmps83
  go_wp2_with (go_at_call 85; refine HI.out.mono ?_; rintro e w1 ⟨rfl, hb1⟩; have HB1 := hid hb1; clear hb1)
  go_ret
  exact ⟨by rw [← HA.out]; rfl, HB1.out⟩

end Go.Proofs.YtblalejegjieaaaGreatDoor
