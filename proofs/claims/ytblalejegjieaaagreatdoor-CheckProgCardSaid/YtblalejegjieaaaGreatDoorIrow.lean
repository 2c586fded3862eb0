/-
  A slice of instructions, read; a world under one name.
-/
import Derived.Test.YtblalejegjieaaaGreatDoorMst
namespace Go.Proofs.YtblalejegjieaaaGreatDoor
open Go.RowKit
set_option linter.unusedVariables false

/-- The world under one name, of which a few things are known. -/
theorem wp_rename {P : Program} {c : Code} {Q : Exit → Act → World → Prop} {a : Act} {w : World} (R : World → Prop) (hR : R w) (h : ∀ w', R w' → c.wp P Q a w') : c.wp P Q a w := h w hR

def Ins.cs (i : Ins) : Array Value := #[.int .i64 i.op, .int .i64 i.a, .int .i64 i.b, .int .i64 i.c, .int .i64 i.n]

/-- Five cells that are an instruction. -/
structure InsAt (w : World) (b o : Nat) (i : Ins) : Prop where
  c0 : w.cell? ⟨b, o, none⟩ = some (.int .i64 i.op)
  c1 : w.cell? ⟨b, o + 1, none⟩ = some (.int .i64 i.a)
  c2 : w.cell? ⟨b, o + 2, none⟩ = some (.int .i64 i.b)
  c3 : w.cell? ⟨b, o + 3, none⟩ = some (.int .i64 i.c)
  c4 : w.cell? ⟨b, o + 4, none⟩ = some (.int .i64 i.n)
theorem InsAt.keep {w w' : World} {b o : Nat} {i : Ins} (h : InsAt w b o i) (hb : w'.heap[b]? = w.heap[b]?) : InsAt w' b o i := by
  have e : ∀ j, w'.cell? ⟨b, j, none⟩ = w.cell? ⟨b, j, none⟩ := fun j => World.cell?_of_block (a := ⟨b, j, none⟩) hb
  exact ⟨(e _).trans h.c0, (e _).trans h.c1, (e _).trans h.c2, (e _).trans h.c3, (e _).trans h.c4⟩
theorem InsAt.lt {w : World} {b o : Nat} {i : Ins} (h : InsAt w b o i) : b < w.heap.size := World.block_lt_of_cell? w ⟨b, o, none⟩ h.c0

/-- A slice that reads as these instructions: nil, or a row of cells. -/
structure InsRow (w : World) (a : Option Addr) (len : Nat) (ps : List Ins) : Prop where
  cnt : ps.length = len
  row : (a = none ∧ len = 0) ∨ ∃ b off, a = some ⟨b, off, none⟩ ∧ b < w.heap.size ∧ ∀ k i, ps[k]? = some i → InsAt w b (off + k * 5) i
theorem InsRow.keep {w w' : World} {a : Option Addr} {len : Nat} {ps : List Ins} (h : InsRow w a len ps) (hs : w.heap.size ≤ w'.heap.size) (hb : ∀ x, a = some x → w'.heap[x.block]? = w.heap[x.block]?) : InsRow w' a len ps := by
  refine ⟨h.cnt, ?_⟩
  rcases h.row with h' | ⟨b, off, rfl, hlt, hc⟩
  · exact .inl h'
  · exact .inr ⟨b, off, rfl, Nat.lt_of_lt_of_le hlt hs, fun k i hk => (hc k i hk).keep (hb _ rfl)⟩
theorem InsRow.below {w w' : World} {a : Option Addr} {len : Nat} {ps : List Ins} (h : InsRow w a len ps) (hb : Below w.heap.size w w') : InsRow w' a len ps := by
  refine ⟨h.cnt, ?_⟩
  rcases h.row with h' | ⟨b, off, rfl, hlt, hc⟩
  · exact .inl h'
  · exact .inr ⟨b, off, rfl, Nat.lt_of_lt_of_le hlt hb.size, fun k i hk => (hc k i hk).keep (hb.block b hlt)⟩
theorem InsRow.at {w : World} {a : Option Addr} {len : Nat} {ps : List Ins} (h : InsRow w a len ps) (hl : 0 < len) : ∃ b off, a = some ⟨b, off, none⟩ ∧ b < w.heap.size ∧ ∀ k i, ps[k]? = some i → InsAt w b (off + k * 5) i := by
  rcases h.row with ⟨_, h'⟩ | h'
  · omega
  · exact h'

/-- The operations of a program. -/
def opsOf (ps : List Ins) : List Int := ps.map Ins.op
theorem opsOf_at {ps : List Ins} {k : Nat} {i : Ins} (h : ps[k]? = some i) : (opsOf ps).getD k 0 = i.op := by simp [opsOf, h]

/-- The open blocks as cells: where each began, and its last one. -/
def blkCells (l : List (Nat × Nat)) : List Value := l.flatMap fun p => [.int .i64 (p.1 : Int), .int .i64 (p.2 : Int)]
theorem blkCells_len (l : List (Nat × Nat)) : (blkCells l).length = l.length * 2 := by
  induction l with
  | nil => rfl
  | cons p l ih => simp only [blkCells, List.flatMap_cons, List.length_append, List.length_cons, List.length_nil] at ih ⊢; omega
theorem blkCells_snoc (l : List (Nat × Nat)) (x y : Nat) : blkCells (l ++ [(x, y)]) = blkCells l ++ [.int .i64 (x : Int), .int .i64 (y : Int)] := by simp [blkCells]

end Go.Proofs.YtblalejegjieaaaGreatDoor
