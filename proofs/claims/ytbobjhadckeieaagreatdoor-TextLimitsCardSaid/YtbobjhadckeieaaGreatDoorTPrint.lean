/-
  Package text: Print; the document's Print.
-/
import Derived.Test.YtbobjhadckeieaaGreatDoorTBuild
import Derived.Test.YtbobjhadckeieaaGreatDoorTRLine2
namespace Go.Proofs.YtbobjhadckeieaaGreatDoor
open Go.RowKit Go.Shelf
set_option linter.unusedVariables false

def printL (ps : List Ins) : List UInt8 := ps.flatMap fun i => lineL i ++ [10]
/-- What is printed: all lines, or nothing. -/
def printT (ps : List Ins) : List UInt8 := if ps.all mayB = true then printL ps else []
theorem printT_yes {ps : List Ins} (h : ps.all mayB = true) : printT ps = printL ps := if_pos h
theorem printT_no {ps : List Ins} (h : ps.all mayB = false) : printT ps = [] := if_neg (by rw [h]; simp)
theorem printL_snoc (ps : List Ins) (i : Ins) : printL (ps ++ [i]) = printL ps ++ (lineL i ++ [10]) := by simp [printL]
theorem lineL_len {i : Ins} (hn : nOk i.n) : (lineL i).length ≤ 72 := by
  unfold lineL
  split
  · rename_i hm
    have hok := ok_of_may hm hn
    unfold spellL
    split
    · rename_i s hs
      have hmem := List.mem_of_find?_eq_some hs
      have h1 := shps_short s hmem
      have h2 := (shps_fields s hmem).1
      have h3 := tailF_len hok s.fields
      rw [List.length_append]
      omega
    · simp
  · simp
theorem printL_len {ps : List Ins} (h : ∀ i ∈ ps, nOk i.n) : (printL ps).length ≤ 73 * ps.length := by
  induction ps with
  | nil => simp [printL]
  | cons p l ih =>
    have h1 := lineL_len (h p (by simp))
    have h2 := ih fun i hi => h i (by simp [hi])
    simp only [printL, List.flatMap_cons, List.length_append, List.length_cons, List.length_nil] at h2 ⊢
    omega
theorem take_next {ps : List Ins} {k : Nat} {i : Ins} (h : ps[k]? = some i) : ps.take (k + 1) = ps.take k ++ [i] := by
  have hl := (List.getElem?_eq_some_iff.1 h).1
  rw [List.take_succ_eq_append_getElem hl, (List.getElem?_eq_some_iff.1 h).2]

theorem builder_later {T e : TypeId} {B b : Nat} {bs : List Value} {w w' : World} (h : Lib.IsBuilderF T e B b bs w) (hb : Below w.heap.size w w') : Lib.IsBuilderF T e B b bs w' := by
  have key : ∀ {p : Value}, Lib.BuilderAtF T e B b p bs w → Lib.BuilderAtF T e B b p bs w' := by
    intro p ⟨hB, v, hk, hown, hne⟩
    refine ⟨hB, v, (hb.block _ (lt_of_block hk)).trans hk, ⟨hown.1, ?_⟩, hne⟩
    rcases hown.2 with h' | ⟨g, cap, cur, fz, h1, h2, h3, h4⟩
    · exact .inl h'
    · exact .inr ⟨g, cap, cur, fz, h1, h2, (hb.block _ (lt_of_block h3)).trans h3, h4⟩
  rcases h with h | h
  · exact .inl (key h)
  · exact .inr (key h)

end Go.Proofs.YtbobjhadckeieaaGreatDoor
