/-
  The document's own words, Line.
-/
import Derived.Test.YtbobjhadckeieaaGreatDoorTRL
import Derived.Test.YtbobjhadckeieaaGreatDoorTDec
import Derived.Deep.RegionHeld3
import Derived.Deep.DrawnRows
import Derived.Deep.DeepCutAuto
namespace Go.Proofs.YtbobjhadckeieaaGreatDoor
open Go.RowKit
set_option linter.unusedVariables false
attribute [local go_sem ↓] Go.wp_at_zero Go.wp_at_succ

def rwordsCs : Array Value := (rwords.map fun l => Value.string (bsOf l)).toArray
theorem rword_cell (op : Int) (h0 : 1 ≤ op) (h1 : op ≤ 22) : rwordsCs[op.toNat]? = some (.string (bsOf (rwords.getD op.toNat []))) := by
  obtain ⟨k, rfl⟩ : ∃ k : Nat, op = (k : Int) := ⟨op.toNat, by omega⟩
  have hk : k < 23 := by omega
  unfold rwordsCs
  rw [Int.toNat_natCast, List.getElem?_toArray, List.getElem?_map]
  have hl : k < rwords.length := hk
  rw [List.getElem?_eq_getElem hl, List.getD_eq_getElem?_getD, List.getElem?_eq_getElem hl]
  rfl

theorem rword_short (op b : Int) : (rword op b).length ≤ 6 := by
  unfold rword
  split
  · decide
  · rw [List.getD_eq_getElem?_getD]
    have h : ∀ l ∈ rwords, l.length ≤ 6 := by decide
    cases hq : rwords[op.toNat]? with
    | none => simp
    | some l => exact h l (List.mem_of_getElem? hq)
theorem seg_short (g : Bool) {v : Int} (h : nOk v) : (seg g v).length ≤ 22 := by
  unfold seg
  split
  · have := Lib.itoa_length_le v h.lo h.hi
    simp only [List.length_cons]; omega
  · simp
theorem seg_no (l : List UInt8) (v : Int) : l ++ seg false v = l := by simp [seg]
theorem seg_yes (l : List UInt8) (v : Int) : bsOf l ++ (⟨#[32]⟩ ++ bsOf (Lib.itoa v)) = bsOf (l ++ seg true v) := by
  apply ByteArray.ext
  simp [bsOf, seg]

/-- A piece of the line, laid behind it. -/
structure LineAt (w : World) (i : Ins) (wx : World) : Prop where
  box : InsAt wx w.heap.size 0 i
  below : Below w.heap.size w wx
theorem LineAt.later {w W W' : World} {i : Ins} (h : LineAt w i W) (hb : Below W.heap.size W W') : LineAt w i W' :=
  ⟨h.box.keep (hb.block _ h.box.lt), bthen h.below hb⟩

end Go.Proofs.YtbobjhadckeieaaGreatDoor
