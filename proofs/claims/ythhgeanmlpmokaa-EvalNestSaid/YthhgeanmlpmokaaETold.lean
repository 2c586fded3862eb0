/-
  'told', which each statement of layer 4 ends in: it answers true, and nothing old has turned.
-/
import Derived.Test.YthhgeanmlpmokaaMates
import Derived.Test.YthhgeanmlpmokaaNext6
namespace Go.Proofs.Ythhgeanmlpmokaa
open Go.RowKit
set_option linter.unusedVariables false

/-- The cells of some instructions, one behind the other. -/
def insCells (ps : List Ins) : List Value := ps.flatMap fun i => [.int .i64 i.op, .int .i64 i.a, .int .i64 i.b, .int .i64 i.c, .int .i64 i.n]
theorem insCells_len (ps : List Ins) : (insCells ps).length = ps.length * 5 := by
  induction ps with
  | nil => rfl
  | cons p l ih => simp only [insCells, List.flatMap_cons, List.length_append, List.length_cons, List.length_nil] at ih ⊢; omega
theorem insCells_at : ∀ (ps : List Ins) (k : Nat) (i : Ins), ps[k]? = some i → (insCells ps)[k * 5]? = some (.int .i64 i.op) ∧ (insCells ps)[k * 5 + 1]? = some (.int .i64 i.a) ∧ (insCells ps)[k * 5 + 2]? = some (.int .i64 i.b) ∧ (insCells ps)[k * 5 + 3]? = some (.int .i64 i.c) ∧ (insCells ps)[k * 5 + 4]? = some (.int .i64 i.n) := by
  intro ps
  induction ps with
  | nil => intro k i h; simp at h
  | cons p l ih =>
    intro k i h
    have e : insCells (p :: l) = [.int .i64 p.op, .int .i64 p.a, .int .i64 p.b, .int .i64 p.c, .int .i64 p.n] ++ insCells l := by simp [insCells]
    rw [e]
    match k, h with
    | 0, h =>
      simp only [List.getElem?_cons_zero, Option.some.injEq] at h
      subst h
      exact ⟨rfl, rfl, rfl, rfl, rfl⟩
    | k + 1, h =>
      simp only [List.getElem?_cons_succ] at h
      have := ih k i h
      have e5 : ∀ j, (k + 1) * 5 + j = (k * 5 + j) + 5 := fun j => by omega
      have e6 : (k + 1) * 5 = k * 5 + 5 := by omega
      rw [e5, e5, e5, e5, e6]
      exact this

/-- What a literal lays. -/
theorem InsRow.lit (ps : List Ins) (n : Nat) (w : World) (E : TypeId) (cs : Array Value) (h : cs = (insCells ps).toArray) (hn : ps.length = n) : InsRow (w.alloc (.cells cs E)) (some ⟨w.heap.size, 0, none⟩) n ps := by
  subst h
  refine ⟨hn, .inr ⟨w.heap.size, 0, rfl, by simp, fun k i hk => ?_⟩⟩
  obtain ⟨h0, h1, h2, h3, h4⟩ := insCells_at ps k i hk
  have e : ∀ j, (w.alloc (.cells (insCells ps).toArray E)).cell? ⟨w.heap.size, j, none⟩ = (insCells ps)[j]? := fun j => by
    rw [World.cell?_alloc_at _ _ _ _ rfl]
    simp
  refine ⟨?_, ?_, ?_, ?_, ?_⟩ <;> rw [e, Nat.zero_add] <;> assumption
theorem IntRow.lit (zs : List Int) (E : TypeId) (w : World) (cs : Array Value) (h : cs = (zs.map (Value.int .i64)).toArray) (n : Nat) (hn : n = zs.length) : IntRow (w.alloc (.cells cs E)) (some ⟨w.heap.size, 0, none⟩) n zs := by
  subst h hn
  refine ⟨rfl, .inr ⟨_, rfl, fun j hj => ?_⟩⟩
  rw [add_at, World.cell?_alloc_at _ _ _ _ rfl]
  simp [hj]

theorem mates3 (w : World) (e : Ending) (w' : World) (h : MatesRet (opsOf [⟨18, 0, 0, 0, 0⟩, ⟨19, 0, 0, 0, 0⟩, ⟨20, 0, 0, 0, 0⟩]) w e w') :
    ∃ b off c, e = .returned (.tuple #[.slice (some ⟨b, off, none⟩) 3 c, .int .i64 (-1)]) ∧ b < w'.heap.size ∧ (w'.cell? ⟨b, off, none⟩ = some (.int .i64 1) ∧ w'.cell? ⟨b, off + 1, none⟩ = some (.int .i64 2) ∧ w'.cell? ⟨b, off + 2, none⟩ = some (.int .i64 (-1))) ∧ Below w.heap.size w w' := by
  have hM : matesOf (opsOf [⟨18, 0, 0, 0, 0⟩, ⟨19, 0, 0, 0, 0⟩, ⟨20, 0, 0, 0, 0⟩]) = ([1, 2, -1], -1) := by decide +kernel
  unfold MatesRet at h
  rw [hM] at h
  obtain ⟨a, c, he, hr, _, hb⟩ := h
  obtain ⟨b, off, rfl, hlt, hc⟩ := hr.at (by decide)
  exact ⟨b, off, c, he, hlt, ⟨hc 0 (by decide), hc 1 (by decide), hc 2 (by decide)⟩, hb⟩
theorem next9 : nextF [⟨1, 2, 0, 0, 9⟩] [-1] 0 ⟨0, 0, 0, 0⟩ = (1, ⟨0, 0, 9, 0⟩, true) := rfl

set_option maxRecDepth 100000 in
set_option maxHeartbeats 4000000 in
theorem told_any (w : World) : Calls Try.prog 4 #[] w fun e w' => e = .returned (.bool true) ∧ Below w.heap.size w w' := by
  have HR := hid (InsRow.lit [⟨18, 0, 0, 0, 0⟩, ⟨19, 0, 0, 0, 0⟩, ⟨20, 0, 0, 0, 0⟩] 3 w 27 #[.int .i64 18, .int .i64 0, .int .i64 0, .int .i64 0, .int .i64 0, .int .i64 19, .int .i64 0, .int .i64 0, .int .i64 0, .int .i64 0, .int .i64 20, .int .i64 0, .int .i64 0, .int .i64 0, .int .i64 0] rfl rfl)
  have H3 := hid (show 3 ≤ 100000 by decide)
  have H1 := hid (show 1 ≤ 100000 by decide)
  go_enter Try.func4, Try.ntmps4
  go_upto_region 2 with (go_at_call 5; (with_reducible refine (Mates_any _ _ _ [⟨18, 0, 0, 0, 0⟩, ⟨19, 0, 0, 0, 0⟩, ⟨20, 0, 0, 0, 0⟩] _ HR.out H3.out).mono ?_); rintro e w1 hm; obtain ⟨b, off, c, rfl, hlt, hc, hb1⟩ := mates3 _ _ _ hm; clear hm; have HC := hid hc; have HLT := hid hlt; have HB1 := hid (bthen (bnew (bid w) _) hb1); clear hc hlt hb1; have HI := hid ((InsRow.lit [⟨1, 2, 0, 0, 9⟩] 1 w1 27 #[.int .i64 1, .int .i64 2, .int .i64 0, .int .i64 0, .int .i64 9] rfl rfl).below (bnew (bid _) (.cells #[.int .i64 (-1)] 3))); have HJ := hid (IntRow.lit [-1] 3 (w1.alloc (.cells #[.int .i64 1, .int .i64 2, .int .i64 0, .int .i64 0, .int .i64 9] 27)) #[.int .i64 (-1)] rfl 1 rfl); rw [size_alloc1] at HJ)
  go_upto_region 3 with (go_at_call 6; go_must ((with_reducible refine (Next_any _ _ _ _ _ _ _ [⟨1, 2, 0, 0, 9⟩] [-1] ⟨0, 0, 0, 0⟩ _ HI.out HJ.out H1.out).mono ?_); rintro e w2 hm; rw [next9] at hm; obtain ⟨rfl, hb2⟩ := hm; have HB2 := hid (bthen (bnew (bnew (bid w1) _) _) hb2); clear hb2))
  have hb3 := bnew HB2.out (.cells #[.int .i64 0, .int .i64 0, .int .i64 9, .int .i64 0] 31)
  have hbb := hb3.block b HLT.out
  have e : ∀ j, (w2.alloc (.cells #[.int .i64 0, .int .i64 0, .int .i64 9, .int .i64 0] 31)).cell? ⟨b, j, none⟩ = w1.cell? ⟨b, j, none⟩ := fun j => World.cell?_of_block (a := ⟨b, j, none⟩) hbb
  have c0 := (e _).trans HC.out.1
  have c1 := (e _).trans HC.out.2.1
  have c2 := (e _).trans HC.out.2.2
  have HB3 := hid (bthen HB1.out hb3)
  clear hb3 hbb e HR HI HJ HC HB1 HB2
  go_wp2
  go_ret
  exact ⟨rfl, HB3.out⟩

end Go.Proofs.Ythhgeanmlpmokaa
