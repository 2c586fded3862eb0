/-
  The document's own Line: the plain function, and that it is the program's.
-/
import Derived.Test.YtbobjhadckeieaaGreatDoorTSpell
import Derived.Test.YtbobjhadckeieaaGreatDoorTRMay
namespace Go.Proofs.YtbobjhadckeieaaGreatDoor
open Go.RowKit
set_option linter.unusedVariables false

def rwords : List (List UInt8) := [[], [115, 101, 116], [97, 100, 100], [115, 117, 98], [109, 117, 108], [120, 111, 114], [108, 101, 115, 115], [115, 97, 109, 101], [108, 111, 97, 100], [115, 116, 111, 114, 101], [116, 97, 107, 101], [103, 105, 118, 101], [108, 111, 103], [101, 110, 116, 101, 114], [108, 101, 97, 118, 101], [119, 97, 105, 116], [115, 105, 103, 110, 97, 108], [99, 97, 115, 116], [105, 102], [101, 108, 115, 101], [101, 110, 100], [108, 111, 111, 112], [98, 97, 99, 107]]
def seg (c : Bool) (v : Int) : List UInt8 := if c = true then 32 :: Lib.itoa v else []
def rword (op b : Int) : List UInt8 := if op = 13 ∧ b = 1 then [114, 101, 97, 100] else rwords.getD op.toNat []
def rB (op : Int) : Int := if op = 13 then 0 else fB op
def refL (i : Ins) : List UInt8 := rword i.op i.b ++ seg (decide (0 < fA i.op)) i.a ++ seg (decide (0 < rB i.op)) i.b ++ seg (decide (0 < fC i.op)) i.c ++ seg (freeB i.op) i.n

set_option maxHeartbeats 4000000 in
theorem refL_eq (i : Ins) (h : mayB i = true) : refL i = spellL i := by
  obtain ⟨op, a, b, c, n⟩ := i
  unfold mayB at h
  simp only [Bool.and_eq_true] at h
  obtain ⟨⟨⟨⟨h0, h1⟩, h2⟩, h3⟩, _⟩ := h
  have ho := of_decide_eq_true h0
  have g2 := amongB_iff.1 h2
  rcases op_cases op with (rfl | rfl | rfl | rfl | rfl | rfl | rfl | rfl | rfl | rfl | rfl) | (rfl | rfl | rfl | rfl | rfl | rfl | rfl | rfl | rfl | rfl | rfl) | h
  case inr.inr => omega
  case inl.inl =>
    skip
    have hb : b = 0 := by have : limB 1 = 1 := rfl; omega
    (subst hb; simp [refL, spellL, shps, sfits, hasB, Lib.indexByte, rword, rwords, rB, seg, fA, fB, fC, freeB, tailF, getF, List.find?])
  case inl.inr.inl =>
    skip
    skip
    simp [refL, spellL, shps, sfits, hasB, Lib.indexByte, rword, rwords, rB, seg, fA, fB, fC, freeB, tailF, getF, List.find?]
  case inl.inr.inr.inl =>
    skip
    skip
    simp [refL, spellL, shps, sfits, hasB, Lib.indexByte, rword, rwords, rB, seg, fA, fB, fC, freeB, tailF, getF, List.find?]
  case inl.inr.inr.inr.inl =>
    skip
    skip
    simp [refL, spellL, shps, sfits, hasB, Lib.indexByte, rword, rwords, rB, seg, fA, fB, fC, freeB, tailF, getF, List.find?]
  case inl.inr.inr.inr.inr.inl =>
    skip
    skip
    simp [refL, spellL, shps, sfits, hasB, Lib.indexByte, rword, rwords, rB, seg, fA, fB, fC, freeB, tailF, getF, List.find?]
  case inl.inr.inr.inr.inr.inr.inl =>
    skip
    skip
    simp [refL, spellL, shps, sfits, hasB, Lib.indexByte, rword, rwords, rB, seg, fA, fB, fC, freeB, tailF, getF, List.find?]
  case inl.inr.inr.inr.inr.inr.inr.inl =>
    skip
    skip
    simp [refL, spellL, shps, sfits, hasB, Lib.indexByte, rword, rwords, rB, seg, fA, fB, fC, freeB, tailF, getF, List.find?]
  case inl.inr.inr.inr.inr.inr.inr.inr.inl =>
    skip
    skip
    simp [refL, spellL, shps, sfits, hasB, Lib.indexByte, rword, rwords, rB, seg, fA, fB, fC, freeB, tailF, getF, List.find?]
  case inl.inr.inr.inr.inr.inr.inr.inr.inr.inl =>
    skip
    skip
    simp [refL, spellL, shps, sfits, hasB, Lib.indexByte, rword, rwords, rB, seg, fA, fB, fC, freeB, tailF, getF, List.find?]
  case inl.inr.inr.inr.inr.inr.inr.inr.inr.inr.inl =>
    skip
    skip
    simp [refL, spellL, shps, sfits, hasB, Lib.indexByte, rword, rwords, rB, seg, fA, fB, fC, freeB, tailF, getF, List.find?]
  case inl.inr.inr.inr.inr.inr.inr.inr.inr.inr.inr =>
    skip
    skip
    simp [refL, spellL, shps, sfits, hasB, Lib.indexByte, rword, rwords, rB, seg, fA, fB, fC, freeB, tailF, getF, List.find?]
  case inr.inl.inl =>
    skip
    have hb : b = 0 := by have : limB 12 = 1 := rfl; omega
    (subst hb; simp [refL, spellL, shps, sfits, hasB, Lib.indexByte, rword, rwords, rB, seg, fA, fB, fC, freeB, tailF, getF, List.find?])
  case inr.inl.inr.inl =>
    have hb : b = 0 ∨ b = 1 := by have : limB 13 = 2 := rfl; omega
    rcases hb with rfl | rfl
    all_goals simp [refL, spellL, shps, sfits, hasB, Lib.indexByte, rword, rwords, rB, seg, fA, fB, fC, freeB, tailF, getF, List.find?]
  case inr.inl.inr.inr.inl =>
    skip
    have hb : b = 0 := by have : limB 14 = 1 := rfl; omega
    (subst hb; simp [refL, spellL, shps, sfits, hasB, Lib.indexByte, rword, rwords, rB, seg, fA, fB, fC, freeB, tailF, getF, List.find?])
  case inr.inl.inr.inr.inr.inl =>
    skip
    have hb : b = 0 := by have : limB 15 = 1 := rfl; omega
    (subst hb; simp [refL, spellL, shps, sfits, hasB, Lib.indexByte, rword, rwords, rB, seg, fA, fB, fC, freeB, tailF, getF, List.find?])
  case inr.inl.inr.inr.inr.inr.inl =>
    skip
    have hb : b = 0 := by have : limB 16 = 1 := rfl; omega
    (subst hb; simp [refL, spellL, shps, sfits, hasB, Lib.indexByte, rword, rwords, rB, seg, fA, fB, fC, freeB, tailF, getF, List.find?])
  case inr.inl.inr.inr.inr.inr.inr.inl =>
    skip
    have hb : b = 0 := by have : limB 17 = 1 := rfl; omega
    (subst hb; simp [refL, spellL, shps, sfits, hasB, Lib.indexByte, rword, rwords, rB, seg, fA, fB, fC, freeB, tailF, getF, List.find?])
  case inr.inl.inr.inr.inr.inr.inr.inr.inl =>
    skip
    have hb : b = 0 := by have : limB 18 = 1 := rfl; omega
    (subst hb; simp [refL, spellL, shps, sfits, hasB, Lib.indexByte, rword, rwords, rB, seg, fA, fB, fC, freeB, tailF, getF, List.find?])
  case inr.inl.inr.inr.inr.inr.inr.inr.inr.inl =>
    skip
    have hb : b = 0 := by have : limB 19 = 1 := rfl; omega
    (subst hb; simp [refL, spellL, shps, sfits, hasB, Lib.indexByte, rword, rwords, rB, seg, fA, fB, fC, freeB, tailF, getF, List.find?])
  case inr.inl.inr.inr.inr.inr.inr.inr.inr.inr.inl =>
    skip
    have hb : b = 0 := by have : limB 20 = 1 := rfl; omega
    (subst hb; simp [refL, spellL, shps, sfits, hasB, Lib.indexByte, rword, rwords, rB, seg, fA, fB, fC, freeB, tailF, getF, List.find?])
  case inr.inl.inr.inr.inr.inr.inr.inr.inr.inr.inr.inl =>
    skip
    have hb : b = 0 := by have : limB 21 = 1 := rfl; omega
    (subst hb; simp [refL, spellL, shps, sfits, hasB, Lib.indexByte, rword, rwords, rB, seg, fA, fB, fC, freeB, tailF, getF, List.find?])
  case inr.inl.inr.inr.inr.inr.inr.inr.inr.inr.inr.inr =>
    skip
    have hb : b = 0 := by have : limB 22 = 1 := rfl; omega
    (subst hb; simp [refL, spellL, shps, sfits, hasB, Lib.indexByte, rword, rwords, rB, seg, fA, fB, fC, freeB, tailF, getF, List.find?])

end Go.Proofs.YtbobjhadckeieaaGreatDoor
