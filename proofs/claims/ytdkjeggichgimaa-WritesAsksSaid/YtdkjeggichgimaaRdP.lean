/-
  What a set of words is, in plain words; rows of words; a set behind a pointer, the program's and the document's.
-/
import Derived.Test.YtdkjeggichgimaaBase
import Derived.Maps.AppendAt
namespace Go.Proofs.Ytdkjeggichgimaa
open Go.RowKit

theorem wp_renamed {P : Program} {c : Code} {Q : Exit → Act → World → Prop} {a : Act} {w : World} (R : World → Prop) (hR : R w) (h : ∀ w', R w' → c.wp P Q a w') : c.wp P Q a w := h w hR

abbrev Wd := Int × Int
def wv (p : Wd) : Value := .agg #[.int .i64 p.1, .int .i64 p.2]

/-- Whether a key is there. -/
def hasL (ws : List Wd) (k : Int) : Bool := ws.any fun p => p.1 == k
theorem hasL_nil (k : Int) : hasL [] k = false := rfl
theorem hasL_snoc (ws : List Wd) (p : Wd) (k : Int) : hasL (ws ++ [p]) k = (hasL ws k || p.1 == k) := by simp [hasL, List.any_append]
theorem take_more {ws : List Wd} {i : Nat} {p : Wd} (h : ws[i]? = some p) : ws.take (i + 1) = ws.take i ++ [p] := by
  obtain ⟨hl, rfl⟩ := List.getElem?_eq_some_iff.1 h
  exact List.take_succ_eq_append_getElem hl
theorem hasL_take {ws : List Wd} {i : Nat} {p : Wd} (h : ws[i]? = some p) (k : Int) : hasL (ws.take (i + 1)) k = (hasL (ws.take i) k || p.1 == k) := by
  rw [take_more h, hasL_snoc]
theorem hasL_hit {ws : List Wd} {i : Nat} {p : Wd} {k : Int} (h : ws[i]? = some p) (hk : p.1 = k) : hasL ws k = true :=
  List.any_eq_true.2 ⟨p, List.mem_of_getElem? h, by simpa using hk⟩
/-- Whether there is room for it. -/
def roomL (R : Nat) (ws : List Wd) (k : Int) : Bool := hasL ws k || decide (ws.length < R)
/-- What is there behind a Put. -/
def putL (R : Nat) (ws : List Wd) (k v : Int) : List Wd := if hasL ws k = true then ws else if ws.length < R then ws ++ [(k, v)] else ws
theorem putL_there {R : Nat} {ws : List Wd} {k : Int} (v : Int) (h : hasL ws k = true) : putL R ws k v = ws := by unfold putL; rw [if_pos h]
theorem putL_full {R : Nat} {ws : List Wd} {k : Int} (v : Int) (h : ¬ ws.length < R) : putL R ws k v = ws := by
  unfold putL
  by_cases hh : hasL ws k = true
  · rw [if_pos hh]
  · rw [if_neg hh, if_neg h]
theorem putL_new {R : Nat} {ws : List Wd} {k : Int} (v : Int) (h : hasL ws k = false) (hl : ws.length < R) : putL R ws k v = ws ++ [(k, v)] := by
  unfold putL
  rw [h, if_pos hl]
  rfl
theorem putL_len {R : Nat} {ws : List Wd} (k v : Int) (h : ws.length ≤ R) : (putL R ws k v).length ≤ R := by
  unfold putL
  split
  · exact h
  · split
    · rw [List.length_append, List.length_singleton]; omega
    · exact h

/-- Two cells that are a word. -/
structure WAt (w : World) (b o : Nat) (p : Wd) : Prop where
  c0 : w.cell? ⟨b, o, none⟩ = some (.int .i64 p.1)
  c1 : w.cell? ⟨b, o + 1, none⟩ = some (.int .i64 p.2)
theorem WAt.keep {w w' : World} {b o : Nat} {p : Wd} (h : WAt w b o p) (hb : w'.heap[b]? = w.heap[b]?) : WAt w' b o p := by
  have e : ∀ j, w'.cell? ⟨b, j, none⟩ = w.cell? ⟨b, j, none⟩ := fun j => World.cell?_of_block (a := ⟨b, j, none⟩) hb
  exact ⟨(e _).trans h.c0, (e _).trans h.c1⟩
theorem WAt.lt {w : World} {b o : Nat} {p : Wd} (h : WAt w b o p) : b < w.heap.size := World.block_lt_of_cell? w ⟨b, o, none⟩ h.c0

/-- A slice that reads as these words: nil, or a row of cells. -/
structure WRow (w : World) (a : Option Addr) (len : Nat) (ws : List Wd) : Prop where
  cnt : ws.length = len
  row : len = 0 ∨ ∃ b off, a = some ⟨b, off, none⟩ ∧ b < w.heap.size ∧ ∀ k p, ws[k]? = some p → WAt w b (off + k * 2) p
theorem WRow.keep {w w' : World} {a : Option Addr} {len : Nat} {ws : List Wd} (h : WRow w a len ws) (hs : w.heap.size ≤ w'.heap.size) (hb : ∀ x, a = some x → x.block < w.heap.size → w'.heap[x.block]? = w.heap[x.block]?) : WRow w' a len ws := by
  refine ⟨h.cnt, ?_⟩
  rcases h.row with h' | ⟨b, off, rfl, hlt, hc⟩
  · exact .inl h'
  · exact .inr ⟨b, off, rfl, Nat.lt_of_lt_of_le hlt hs, fun k i hk => (hc k i hk).keep (hb _ rfl hlt)⟩
theorem WRow.below {w w' : World} {a : Option Addr} {len : Nat} {ws : List Wd} (h : WRow w a len ws) (hb : Below w.heap.size w w') : WRow w' a len ws :=
  h.keep hb.size fun x _ hlt => hb.block _ hlt
theorem WRow.at {w : World} {a : Option Addr} {len : Nat} {ws : List Wd} (h : WRow w a len ws) (hl : 0 < len) : ∃ b off, a = some ⟨b, off, none⟩ ∧ b < w.heap.size ∧ ∀ k p, ws[k]? = some p → WAt w b (off + k * 2) p := by
  rcases h.row with h' | h'
  · omega
  · exact h'
theorem WRow.nil (w : World) : WRow w none 0 [] := ⟨rfl, .inl rfl⟩
theorem word_at {ws : List Wd} {k : Nat} (h : k < ws.length) : ∃ p, ws[k]? = some p := ⟨_, List.getElem?_eq_getElem h⟩

end Go.Proofs.Ytdkjeggichgimaa
