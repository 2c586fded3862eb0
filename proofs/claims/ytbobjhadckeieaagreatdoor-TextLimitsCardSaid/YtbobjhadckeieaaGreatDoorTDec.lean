/-
  The document's own digits of any number.
-/
import Derived.Test.YtbobjhadckeieaaGreatDoorTSpell
import Derived.Laws.IdiomStrings
import Derived.IntWalk
import Derived.Laws.Bits64
namespace Go.Proofs.YtbobjhadckeieaaGreatDoor
open Go.RowKit
set_option linter.unusedVariables false

theorem digit_text (z : Int) (h0 : 0 ≤ z) (h1 : z < 10) (w : World) :
    (convert 53 9 (.slice (some ⟨w.heap.size, 0, none⟩) 1 1)).run Tryz.prog (w.alloc (.cells #[.int .u8 (48 + z)] 5)) = .ok (.string (bsOf [UInt8.ofNat (48 + z.toNat)])) (w.alloc (.cells #[.int .u8 (48 + z)] 5)) := by
  refine run_convert_bytes_back (l := [UInt8.ofNat (48 + z.toNat)]) _ _ _ 5 ⟨w.heap.size, 0, none⟩ 1 Tryz.underlying53 Tryz.underlying5 Tryz.underlying9 (fun j hj => ?_)
  have hj0 : j = 0 := by simpa using hj
  subst hj0
  rw [add_zero, World.cell?_alloc_at _ _ _ _ rfl]
  have e : ((UInt8.ofNat (48 + z.toNat)).toNat : Int) = 48 + z := by
    rw [UInt8.toNat_ofNat']
    omega
  show some (Value.int .u8 (48 + z)) = some (Value.int .u8 (((UInt8.ofNat (48 + z.toNat)).toNat : Nat) : Int))
  rw [e]

def nilNat : Value → Nat
  | .string b => if b.size = 0 then 1 else 0
  | _ => 0

theorem toList_mk (l : List UInt8) : (bsOf l).toList = l := ByteArray.toList_mk l
/-- The state of the loop: what is left, and the digits so far. -/
def DecAt (U : Nat) (u : Nat) (l : List UInt8) : Prop := (0 < u → Lib.decDigits u ++ l = Lib.decDigits U) ∧ (u = 0 → l = Lib.decDigits U ∨ (l = [] ∧ U = 0)) ∧ u ≤ U ∧ l.length ≤ 21
theorem DecAt.next {U u : Nat} {l : List UInt8} (hU : (Lib.decDigits U).length ≤ 21) (h : DecAt U u l) (hc : 0 < u ∨ l = []) : DecAt U (u / 10) (UInt8.ofNat (48 + u % 10) :: l) := by
  obtain ⟨h1, h2, h3, h4⟩ := h
  by_cases hu : 0 < u
  · have e := h1 hu
    by_cases h10 : u < 10
    · rw [decDigits_small h10] at e
      have em : u % 10 = u := Nat.mod_eq_of_lt h10
      have ed : u / 10 = 0 := by omega
      rw [em, ed]
      have e' : UInt8.ofNat (48 + u) :: l = Lib.decDigits U := e
      refine ⟨fun h => by omega, fun _ => .inl e', Nat.zero_le _, ?_⟩
      rw [e']; exact hU
    · rw [decDigits_big h10, List.append_assoc] at e
      have e' : Lib.decDigits (u / 10) ++ (UInt8.ofNat (48 + u % 10) :: l) = Lib.decDigits U := e
      refine ⟨fun _ => e', fun h => by omega, by omega, ?_⟩
      have := congrArg List.length e'
      rw [List.length_append] at this
      omega
  · have hu0 : u = 0 := by omega
    subst hu0
    have hl : l = [] := by
      rcases hc with hc | hc
      · omega
      · exact hc
    subst hl
    rcases h2 rfl with h | ⟨-, h⟩
    · exact absurd h.symm (decDigits_ne _)
    · subst h
      exact ⟨fun h => by simp at h, fun _ => .inl (by rw [decDigits_small (by omega)]), by omega, by simp⟩

end Go.Proofs.YtbobjhadckeieaaGreatDoor
