/-
  The document's example of layer 1; an error put so often.
-/
import Derived.Test.YtbobjhadckeieaaDoorAtErr
import Derived.Test.YtbobjhadckeieaaDoorLErrs
import Derived.Lib.ItoaMem
import Derived.Lib.ItoaLen
namespace Go.Proofs.YtbobjhadckeieaaDoor
open Go.RowKit
set_option linter.unusedVariables false

/-- The codes' errors, and what they say. -/
structure Ers (sb : Nat → Addr) (w : World) : Prop where
  sents : Sents w sb
  et : ErrType w
  txt : ∀ j, 1 ≤ j → j ≤ 10 → StrAt w (sb j) (bsOf (codeText j))
theorem Ers.below {sb : Nat → Addr} {w w' : World} (h : Ers sb w) (hb : Below w.heap.size w w') : Ers sb w' := ⟨h.sents.below hb, h.et.below hb, fun j h1 h2 => (h.txt j h1 h2).below hb⟩
theorem Ers.of {sb : Nat → Addr} {W : World} (h1 : Sents W sb) (h2 : ErrType W) (h3 : ∀ j, 1 ≤ j → j ≤ 10 → ∃ s : ByteArray, W.cell? (sb j) = some (.string s) ∧ s.data.toList = codeText j) : Ers sb W := by
  refine ⟨h1, h2, fun j a b => ?_⟩
  obtain ⟨s, q1, q2⟩ := h3 j a b
  have e : s = bsOf (codeText j) := by
    obtain ⟨⟨l⟩⟩ := s
    unfold bsOf
    simp only at q2
    rw [← q2]
  rw [← e]
  exact q1
def consF (t : Int) (f : Nat → Int) : Nat → Int
  | 0 => t
  | j + 1 => f j
theorem PlacesAt.below {w w' : World} {ks : List (Nat × Addr)} {tf pf : Nat → Int} (h : PlacesAt w ks tf pf) (hb : Below w.heap.size w w') : PlacesAt w' ks tf pf := fun j hj => by
  obtain ⟨b, x, h1, h2⟩ := h j hj
  exact ⟨b, x, h1, h2.kept (Wrote.of_below hb (fun _ => False)) fun h => h⟩
theorem PlacesAt.put {w : World} {ks : List (Nat × Addr)} {tf pf : Nat → Int} (h : PlacesAt w ks tf pf) (t p : Int) (e : Value) :
    PlacesAt (w.alloc (.cells #[.int .i64 t, .int .i64 p, e] 71)) ((51, ⟨w.heap.size, 0, none⟩) :: ks) (consF t tf) (consF p pf) := fun j hj => by
  cases j with
  | zero => exact ⟨w.heap.size, e, rfl, heap_alloc_new _ _⟩
  | succ j => exact h.below (bnew (bid w) _) j (by simpa using hj)
theorem PlacesAt.one (w : World) (x : Nat × Addr) (tf pf : Nat → Int) : PlacesAt w [x] tf pf := fun j hj => by simp at hj

/-- An error of so many places: all that is known of it. -/
structure Err (w : World) (sb : Nat → Addr) (c : Nat) (ks : List (Nat × Addr)) (tf pf : Nat → Int) : Prop where
  chain : Chain w ks
  ends : EndsAt ks sb c
  places : PlacesAt w ks tf pf
theorem Err.below {w w' : World} {sb : Nat → Addr} {c : Nat} {ks : List (Nat × Addr)} {tf pf : Nat → Int} (h : Err w sb c ks tf pf) (hb : Below w.heap.size w w') : Err w' sb c ks tf pf := ⟨h.chain.below hb, h.ends, h.places.below hb⟩
theorem Err.one {w : World} {sb : Nat → Addr} (h : Ers sb w) {c : Nat} (h1 : 1 ≤ c) (h2 : c ≤ 10) (tf pf : Nat → Int) : Err w sb c [(167, sb c)] tf pf := ⟨Chain.one h.sents h1 h2, EndsAt.one sb c, PlacesAt.one _ _ _ _⟩
theorem Err.put {w : World} {sb : Nat → Addr} {c : Nat} {ks : List (Nat × Addr)} {tf pf : Nat → Int} (h : Err w sb c ks tf pf) (hf : ks.length < 1000) (t p : Int) :
    Err (w.alloc (.cells #[.int .i64 t, .int .i64 p, errV (ks.getD 0 k0).1 (ks.getD 0 k0).2] 71)) sb c ((51, ⟨w.heap.size, 0, none⟩) :: ks) (consF t tf) (consF p pf) :=
  ⟨h.chain.put hf t p, h.ends.put h.chain.full _, h.places.put t p _⟩
theorem Err.last {w : World} {sb : Nat → Addr} {c : Nat} {ks : List (Nat × Addr)} {tf pf : Nat → Int} (h : Err w sb c ks tf pf) : ks.getD (ks.length - 1) k0 = (167, sb c) := by
  have hf := h.chain.full
  have := h.ends (ks.length - 1) (by omega)
  simp [List.getD_eq_getElem?_getD, this]

theorem itoa_len (n : Int) (h0 : -9223372036854775808 ≤ n) (h1 : n ≤ 9223372036854775807) : (Lib.itoa n).length ≤ 21 := Lib.itoa_length_le n h0 h1
theorem Itoa_small (w : World) (i : Nat) (hi : i < 100) : ItoaAt w (i : Int) := by
  refine ⟨itoa_len (i : Int) (by omega) (by omega), fun W hW => ?_⟩
  rw [Lib.itoa_nonneg]
  refine (Tryd.strconv_Itoa_small i hi W).mono ?_
  rintro e w' ⟨rfl, rfl⟩
  exact ⟨rfl, bid _⟩

set_option maxRecDepth 100000 in
/-- Text of an error with one place at the least. -/
theorem Text_err {w : World} {sb : Nat → Addr} (hE : Ers sb w) {c : Nat} (h1 : 1 ≤ c) (h2 : c ≤ 10) {ks : List (Nat × Addr)} {tf pf : Nat → Int} (h : Err w sb c ks tf pf) (hk : 2 ≤ ks.length) (hn : ks.length ≤ 100)
    (hI : ∀ j, j + 1 < ks.length → ItoaAt w (tf j) ∧ ItoaAt w (pf j)) :
    Calls Tryd.prog 21 #[errV (ks.getD 0 k0).1 (ks.getD 0 k0).2] w fun e w' => e = .returned (.string (bsOf (partsL tf pf (ks.length - 1) ++ codeText c))) ∧ Below w.heap.size w w' := by
  obtain ⟨b, t, p, hb, hat⟩ := h.chain.more 0 (by omega)
  have e0 : ks.getD 0 k0 = (51, ⟨b, 0, none⟩) := by simp [List.getD_eq_getElem?_getD, hb]
  rw [e0]
  refine Text_of (f := 20) (fun W => by kernel_rfl) (fun W => by simp [go_sem]) (fun W hW => ?_)
  refine Error_any (h.chain.below hW) hk hn hb tf pf (h.places.below hW) h.last (codeText c) ((hE.txt c h1 h2).below hW) ?_ (fun j hj => ?_)
  · unfold codeText
    split <;> simp
  · obtain ⟨i1, i2⟩ := hI j hj
    exact ⟨⟨i1.1, fun W' hW' => i1.2 W' (bthen hW hW')⟩, ⟨i2.1, fun W' hW' => i2.2 W' (bthen hW hW')⟩⟩

end Go.Proofs.YtbobjhadckeieaaDoor
