/-
  What a set of words is, in plain words; rows of words; a set behind a pointer, the program's and the document's.
-/
import Derived.Test.YtjfinnjmcnjciaaBase
import Derived.Maps.AppendAt
namespace Go.Proofs.Ytjfinnjmcnjciaa
open Go.RowKit

theorem wp_renamed {P : Program} {c : Code} {Q : Exit → Act → World → Prop} {a : Act} {w : World} (R : World → Prop) (hR : R w) (h : ∀ w', R w' → c.wp P Q a w') : c.wp P Q a w := h w hR

abbrev Wd := Int × Int
def wv (p : Wd) : Value := .agg #[.int .i64 p.1, .int .i64 p.2]

/-- Whether a key is there. -/
def hasL (ws : List Wd) (k : Int) : Bool := ws.any fun p => p.1 == k
theorem hasL_nil (k : Int) : hasL [] k = false := rfl
theorem hasL_snoc (ws : List Wd) (p : Wd) (k : Int) : hasL (ws ++ [p]) k = (hasL ws k || p.1 == k) := by simp [hasL, List.any_append]
theorem take_more {ws : List Wd} {i : Nat} {p : Wd} (h : ws[i]? = some p) : ws.take (i + 1) = ws.take i ++ [p] := by
  obtain ⟨hl, rfl⟩ := List.getElem?_eq_some_iff.1 h
  exact List.take_succ_eq_append_getElem hl
theorem hasL_take {ws : List Wd} {i : Nat} {p : Wd} (h : ws[i]? = some p) (k : Int) : hasL (ws.take (i + 1)) k = (hasL (ws.take i) k || p.1 == k) := by
  rw [take_more h, hasL_snoc]
theorem hasL_hit {ws : List Wd} {i : Nat} {p : Wd} {k : Int} (h : ws[i]? = some p) (hk : p.1 = k) : hasL ws k = true :=
  List.any_eq_true.2 ⟨p, List.mem_of_getElem? h, by simpa using hk⟩
/-- Whether there is room for it. -/
def roomL (R : Nat) (ws : List Wd) (k : Int) : Bool := hasL ws k || decide (ws.length < R)
/-- What is there behind a Put. -/
def putL (R : Nat) (ws : List Wd) (k v : Int) : List Wd := if hasL ws k = true then ws else if ws.length < R then ws ++ [(k, v)] else ws
theorem putL_there {R : Nat} {ws : List Wd} {k : Int} (v : Int) (h : hasL ws k = true) : putL R ws k v = ws := by unfold putL; rw [if_pos h]
theorem putL_full {R : Nat} {ws : List Wd} {k : Int} (v : Int) (h : ¬ ws.length < R) : putL R ws k v = ws := by
  unfold putL
  by_cases hh : hasL ws k = true
  · rw [if_pos hh]
  · rw [if_neg hh, if_neg h]
theorem putL_new {R : Nat} {ws : List Wd} {k : Int} (v : Int) (h : hasL ws k = false) (hl : ws.length < R) : putL R ws k v = ws ++ [(k, v)] := by
  unfold putL
  rw [h, if_pos hl]
  rfl
theorem putL_len {R : Nat} {ws : List Wd} (k v : Int) (h : ws.length ≤ R) : (putL R ws k v).length ≤ R := by
  unfold putL
  split
  · exact h
  · split
    · rw [List.length_append, List.length_singleton]; omega
    · exact h

/-- Two cells that are a word. -/
structure WAt (w : World) (b o : Nat) (p : Wd) : Prop where
  c0 : w.cell? ⟨b, o, none⟩ = some (.int .i64 p.1)
  c1 : w.cell? ⟨b, o + 1, none⟩ = some (.int .i64 p.2)
theorem WAt.keep {w w' : World} {b o : Nat} {p : Wd} (h : WAt w b o p) (hb : w'.heap[b]? = w.heap[b]?) : WAt w' b o p := by
  have e : ∀ j, w'.cell? ⟨b, j, none⟩ = w.cell? ⟨b, j, none⟩ := fun j => World.cell?_of_block (a := ⟨b, j, none⟩) hb
  exact ⟨(e _).trans h.c0, (e _).trans h.c1⟩
theorem WAt.lt {w : World} {b o : Nat} {p : Wd} (h : WAt w b o p) : b < w.heap.size := World.block_lt_of_cell? w ⟨b, o, none⟩ h.c0

/-- A slice that reads as these words: nil, or a row of cells. -/
structure WRow (w : World) (a : Option Addr) (len : Nat) (ws : List Wd) : Prop where
  cnt : ws.length = len
  row : len = 0 ∨ ∃ b off, a = some ⟨b, off, none⟩ ∧ b < w.heap.size ∧ ∀ k p, ws[k]? = some p → WAt w b (off + k * 2) p
theorem WRow.keep {w w' : World} {a : Option Addr} {len : Nat} {ws : List Wd} (h : WRow w a len ws) (hs : w.heap.size ≤ w'.heap.size) (hb : ∀ x, a = some x → x.block < w.heap.size → w'.heap[x.block]? = w.heap[x.block]?) : WRow w' a len ws := by
  refine ⟨h.cnt, ?_⟩
  rcases h.row with h' | ⟨b, off, rfl, hlt, hc⟩
  · exact .inl h'
  · exact .inr ⟨b, off, rfl, Nat.lt_of_lt_of_le hlt hs, fun k i hk => (hc k i hk).keep (hb _ rfl hlt)⟩
theorem WRow.below {w w' : World} {a : Option Addr} {len : Nat} {ws : List Wd} (h : WRow w a len ws) (hb : Below w.heap.size w w') : WRow w' a len ws :=
  h.keep hb.size fun x _ hlt => hb.block _ hlt
theorem WRow.at {w : World} {a : Option Addr} {len : Nat} {ws : List Wd} (h : WRow w a len ws) (hl : 0 < len) : ∃ b off, a = some ⟨b, off, none⟩ ∧ b < w.heap.size ∧ ∀ k p, ws[k]? = some p → WAt w b (off + k * 2) p := by
  rcases h.row with h' | h'
  · omega
  · exact h'
theorem WRow.nil (w : World) : WRow w none 0 [] := ⟨rfl, .inl rfl⟩
theorem word_at {ws : List Wd} {k : Nat} (h : k < ws.length) : ∃ p, ws[k]? = some p := ⟨_, List.getElem?_eq_getElem h⟩

/-- A set of the program's, behind a pointer to block b. -/
structure SetAt (w : World) (b R : Nat) (ws : List Wd) : Prop where
  blk : ∃ cs : Array Value, w.heap[b]? = some (.cells cs 152 (0, 0)) ∧ cs.size = 66 ∧ cs[0]? = some (.int .i64 R) ∧ cs[1]? = some (.int .i64 ws.length) ∧
    ∀ k p, ws[k]? = some p → cs[2 + k * 2]? = some (.int .i64 p.1) ∧ cs[2 + k * 2 + 1]? = some (.int .i64 p.2)
  room : R ≤ 32
  len : ws.length ≤ R
theorem SetAt.lt {w : World} {b R : Nat} {ws : List Wd} (h : SetAt w b R ws) : b < w.heap.size := by
  obtain ⟨cs, h0, _⟩ := h.blk
  exact lt_of_block h0
theorem SetAt.keep {w w' : World} {b R : Nat} {ws : List Wd} (h : SetAt w b R ws) (hb : w'.heap[b]? = w.heap[b]?) : SetAt w' b R ws := by
  obtain ⟨cs, h0, h1⟩ := h.blk
  exact ⟨⟨cs, hb.trans h0, h1⟩, h.room, h.len⟩
theorem SetAt.below {w w' : World} {b R : Nat} {ws : List Wd} (h : SetAt w b R ws) (hb : Below w.heap.size w w') : SetAt w' b R ws := h.keep (hb.block b h.lt)
theorem SetAt.facts {w : World} {b R : Nat} {ws : List Wd} (h : SetAt w b R ws) : w.cell? ⟨b, 0, none⟩ = some (.int .i64 R) ∧ w.cell? ⟨b, 1, none⟩ = some (.int .i64 ws.length) ∧ (∀ i, w.frozen? ⟨b, i, none⟩ = false) ∧
    ∀ k p, ws[k]? = some p → WAt w b (2 + k * 2) p := by
  obtain ⟨cs, h0, hs, hr, hl, hw⟩ := h.blk
  exact ⟨(cell_of_blk h0 0).trans hr, (cell_of_blk h0 1).trans hl, fun i => frozen_of_blk h0 i, fun k p hk => ⟨(cell_of_blk h0 _).trans (hw k p hk).1, (cell_of_blk h0 _).trans (hw k p hk).2⟩⟩
theorem SetAt.cell {w : World} {b R : Nat} {ws : List Wd} (h : SetAt w b R ws) {i : Nat} (hi : i < 66) : ∃ u, w.cell? ⟨b, i, none⟩ = some u := by
  obtain ⟨cs, h0, hs, _⟩ := h.blk
  exact ⟨_, (cell_of_blk h0 i).trans (Array.getElem?_eq_getElem (by omega))⟩
theorem SetAt.row {w : World} {b R : Nat} {ws : List Wd} (h : SetAt w b R ws) : WRow w (some ⟨b, 2, none⟩) ws.length ws :=
  ⟨rfl, .inr ⟨b, 2, rfl, h.lt, h.facts.2.2.2⟩⟩
/-- One more word, and counted. -/
theorem SetAt.put {w : World} {b R : Nat} {ws : List Wd} (h : SetAt w b R ws) (k v : Int) (hl : ws.length < R) :
    SetAt (((w.setCell ⟨b, 2 + ws.length * 2, none⟩ (.int .i64 k)).setCell ⟨b, 2 + ws.length * 2 + 1, none⟩ (.int .i64 v)).setCell ⟨b, 1, none⟩ (.int .i64 ((ws.length + 1 : Nat) : Int))) b R (ws ++ [(k, v)]) := by
  obtain ⟨cs, h0, hs, hr, hc, hw⟩ := h.blk
  have hR := h.room
  refine ⟨⟨_, blk_setCell (blk_setCell (blk_setCell h0 _ _) _ _) _ _, by simp [hs], ?_, ?_, ?_⟩, hR, by rw [List.length_append, List.length_singleton]; omega⟩
  · rw [Array.getElem?_setIfInBounds_ne (by omega), Array.getElem?_setIfInBounds_ne (by omega), Array.getElem?_setIfInBounds_ne (by omega)]; exact hr
  · rw [List.length_append, List.length_singleton, Array.getElem?_setIfInBounds_self_of_lt (by simp; omega)]
  · intro j p hj
    by_cases e : j < ws.length
    · rw [List.getElem?_append_left e] at hj
      have := hw j p hj
      rw [Array.getElem?_setIfInBounds_ne (by omega), Array.getElem?_setIfInBounds_ne (by omega), Array.getElem?_setIfInBounds_ne (by omega), Array.getElem?_setIfInBounds_ne (by omega), Array.getElem?_setIfInBounds_ne (by omega), Array.getElem?_setIfInBounds_ne (by omega)]
      exact this
    · have hjl := (List.getElem?_eq_some_iff.1 hj).1
      simp at hjl
      obtain rfl : j = ws.length := by omega
      rw [List.getElem?_append_right (Nat.le_refl _), Nat.sub_self] at hj
      simp at hj
      subst hj
      refine ⟨?_, ?_⟩
      · rw [Array.getElem?_setIfInBounds_ne (by omega), Array.getElem?_setIfInBounds_ne (by omega), Array.getElem?_setIfInBounds_self_of_lt (by rw [hs]; omega)]
      · rw [Array.getElem?_setIfInBounds_ne (by omega), Array.getElem?_setIfInBounds_self_of_lt (by simp; omega)]
theorem SetAt.clear {w : World} {b R : Nat} {ws : List Wd} (h : SetAt w b R ws) : SetAt (w.setCell ⟨b, 1, none⟩ (.int .i64 0)) b R [] := by
  obtain ⟨cs, h0, hs, hr, hc, hw⟩ := h.blk
  refine ⟨⟨_, blk_setCell h0 _ _, by simp [hs], ?_, ?_, by simp⟩, h.room, Nat.zero_le _⟩
  · rw [Array.getElem?_setIfInBounds_ne (by omega)]; exact hr
  · rw [Array.getElem?_setIfInBounds_self_of_lt (by omega)]; rfl
theorem SetAt.new (w : World) (R : Nat) (hR : R ≤ 32) (cs : Array Value) (hs : cs.size = 66) (h0 : cs[0]? = some (.int .i64 R)) (h1 : cs[1]? = some (.int .i64 0)) : SetAt (w.alloc (.cells cs 152)) w.heap.size R [] :=
  ⟨⟨cs, heap_alloc_new _ _, hs, h0, h1, by simp⟩, hR, Nat.zero_le _⟩

end Go.Proofs.Ytjfinnjmcnjciaa
