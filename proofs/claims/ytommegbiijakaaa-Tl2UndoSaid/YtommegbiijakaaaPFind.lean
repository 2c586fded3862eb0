/-
  The document's own places: Find, and what is told of a place.
-/
import Derived.Test.YtommegbiijakaaaPlaces
import Derived.Test.YtommegbiijakaaaNode
import Derived.Laws.StructEq
namespace Go.Proofs.Ytommegbiijakaaa
open Go.RowKit

set_option maxHeartbeats 1000000 in
theorem places_no (m : PM) (w : World) (h : ¬ m.Ok) :
    Calls Try.prog 92 #[m.v] w fun e w' => e = .returned (.slice none 0 0) ∧ Below w.heap.size w w' := by
  have hm := pmayB_no h
  obtain ⟨s, l, t, c, d⟩ := m
  show Calls _ _ #[.agg #[.int .i64 s, .int .i64 l, .int .i64 t, .int .i64 c, .int .i64 d]] _ _
  go_enter Try.func92, Try.ntmps92
  go_wp2_with (go_at_call 128; refine (refMay_any ⟨s, l, t, c, d⟩ _).mono ?_; rintro e w1 ⟨rfl, hb1⟩; have HB1 := hid hb1; clear hb1)
  go_ret
  exact ⟨rfl, bthen (bnew (bid w) _) HB1.out⟩

/-- Whether four numbers are those. -/
def same4 (a b c d a' b' c' d' : Int) : Bool := (a == a') && (b == b') && (c == c') && (d == d')
theorem same4_iff (a b c d a' b' c' d' : Int) : same4 a b c d a' b' c' d' = true ↔ ([a, b, c, d] : List Int) = [a', b', c', d'] := by simp [same4, and_assoc]

theorem eq_place (a b c d a' b' c' d' : Int) (w : World) :
    (binOp .eql 155 (.agg #[.int .i64 a, .int .i64 b, .int .i64 c, .int .i64 d]) (.agg #[.int .i64 a', .int .i64 b', .int .i64 c', .int .i64 d'])).run Try.prog w = .ok (.bool (same4 a b c d a' b' c' d')) w := by
  have u3 := Try.underlying3
  have a3 := Try.isAgg3
  have z3 := Try.sizeOf3
  have hS : Try.prog.underlying 155 = some (.struct (Try.prog.fieldsOf 155)) := by kernel_rfl
  have hp : Try.prog.stoodInHeld 155 = false := by kernel_rfl
  rw [run_eql_struct, show (10000 : Nat) = 9999 + 1 from rfl, run_equalIn_agg w 9999 155 _ _ hS hp]
  simp only [Program.fieldsOf, Try.underlying155]
  go_simp
  unfold same4
  by_cases h1 : a = a' <;> by_cases h2 : b = b' <;> by_cases h3 : c = c' <;> by_cases h4 : d = d' <;> simp [h1, h2, h3, h4]

theorem list4 {l : List Int} (h : l.length = 4) : l = [l.getD 0 0, l.getD 1 0, l.getD 2 0, l.getD 3 0] := by
  match l, h with
  | [a, b, c, d], _ => rfl

/-- What the loop keeps. -/
structure FindAt (m : PM) (w : World) (bq g cap A : Nat) (qa qb qc qd : Int) (wr : World) : Prop where
  row : Recs 155 wr w.heap.size g cap A (m.recs A)
  box : wr.heap[bq]? = some (.cells #[.int .i64 qa, .int .i64 qb, .int .i64 qc, .int .i64 qd] 155 (0, 0))
  below : Below w.heap.size w wr
theorem FindAt.drewN {m : PM} {w : World} {bq g cap A : Nat} {qa qb qc qd : Int} {wr : World} (h : FindAt m w bq g cap A qa qb qc qd wr) (n : Nat) : FindAt m w bq g cap A qa qb qc qd (wr.drewN n) := by
  have hb : Below wr.heap.size wr (wr.drewN n) := ⟨rfl, rfl, rfl, Nat.le_refl _, fun _ _ => rfl⟩
  exact ⟨h.row.below hb, h.box, bthen h.below hb⟩

end Go.Proofs.Ytommegbiijakaaa
