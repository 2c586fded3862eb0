/-
  The document's own digits of any number.
-/
import Derived.Test.YtbobjhadckeieaaDoorLater
import Derived.Test.YtbobjhadckeieaaDoorTCut
import Derived.Lib.ItoaLen
import Derived.Laws.IdiomStrings
import Derived.IntWalk
import Derived.Laws.Bits64
namespace Go.Proofs.YtbobjhadckeieaaDoor
open Go.RowKit
set_option linter.unusedVariables false

theorem digit_text (z : Int) (h0 : 0 ≤ z) (h1 : z < 10) (w : World) :
    (convert 78 9 (.slice (some ⟨w.heap.size, 0, none⟩) 1 1)).run Tryd.prog (w.alloc (.cells #[.int .u8 (48 + z)] 5)) = .ok (.string (bsOf [UInt8.ofNat (48 + z.toNat)])) (w.alloc (.cells #[.int .u8 (48 + z)] 5)) := by
  refine run_convert_bytes_back (l := [UInt8.ofNat (48 + z.toNat)]) _ _ _ 5 ⟨w.heap.size, 0, none⟩ 1 Tryd.underlying78 Tryd.underlying5 Tryd.underlying9 (fun j hj => ?_)
  have hj0 : j = 0 := by simpa using hj
  subst hj0
  rw [add_zero, World.cell?_alloc_at _ _ _ _ rfl]
  have e : ((UInt8.ofNat (48 + z.toNat)).toNat : Int) = 48 + z := by
    rw [UInt8.toNat_ofNat']
    omega
  show some (Value.int .u8 (48 + z)) = some (Value.int .u8 (((UInt8.ofNat (48 + z.toNat)).toNat : Nat) : Int))
  rw [e]

def nilNat : Value → Nat
  | .string b => if b.size = 0 then 1 else 0
  | _ => 0

theorem toList_mk (l : List UInt8) : (bsOf l).toList = l := ByteArray.toList_mk l
/-- The state of the loop: what is left, and the digits so far. -/
def DecAt (U : Nat) (u : Nat) (l : List UInt8) : Prop := (0 < u → Lib.decDigits u ++ l = Lib.decDigits U) ∧ (u = 0 → l = Lib.decDigits U ∨ (l = [] ∧ U = 0)) ∧ u ≤ U ∧ l.length ≤ 21
theorem DecAt.next {U u : Nat} {l : List UInt8} (hU : (Lib.decDigits U).length ≤ 21) (h : DecAt U u l) (hc : 0 < u ∨ l = []) : DecAt U (u / 10) (UInt8.ofNat (48 + u % 10) :: l) := by
  obtain ⟨h1, h2, h3, h4⟩ := h
  by_cases hu : 0 < u
  · have e := h1 hu
    by_cases h10 : u < 10
    · rw [decDigits_small h10] at e
      have em : u % 10 = u := Nat.mod_eq_of_lt h10
      have ed : u / 10 = 0 := by omega
      rw [em, ed]
      have e' : UInt8.ofNat (48 + u) :: l = Lib.decDigits U := e
      refine ⟨fun h => by omega, fun _ => .inl e', Nat.zero_le _, ?_⟩
      rw [e']; exact hU
    · rw [decDigits_big h10, List.append_assoc] at e
      have e' : Lib.decDigits (u / 10) ++ (UInt8.ofNat (48 + u % 10) :: l) = Lib.decDigits U := e
      refine ⟨fun _ => e', fun h => by omega, by omega, ?_⟩
      have := congrArg List.length e'
      rw [List.length_append] at this
      omega
  · have hu0 : u = 0 := by omega
    subst hu0
    have hl : l = [] := by
      rcases hc with hc | hc
      · omega
      · exact hc
    subst hl
    rcases h2 rfl with h | ⟨-, h⟩
    · exact absurd h.symm (decDigits_ne _)
    · subst h
      exact ⟨fun h => by simp at h, fun _ => .inl (by rw [decDigits_small (by omega)]), by omega, by simp⟩

set_option maxRecDepth 100000 in
set_option maxHeartbeats 2000000 in
theorem dec_nonneg (U : Nat) (hU : U ≤ 9223372036854775807) (w : World) :
    Calls Tryd.prog 18 #[.int .i64 (U : Int)] w fun e w' => e = .returned (.string (bsOf (Lib.decDigits U))) ∧ Below w.heap.size w w' := by
  have hD := Lib.itoa_length_le (U : Int) (by omega) (by omega)
  rw [Lib.itoa_nonneg] at hD
  have HD := hid hD
  have HU := hid hU
  have i1 : (0 : Int) ≤ (U : Int) := by omega
  have i2 : (U : Int) ≤ 9223372036854775807 := by omega
  have i3 : ¬ (U : Int) < 0 := by omega
  clear hD
  go_enter Tryd.func18, Tryd.ntmps18
  go_wp2
  go_loopw [3, 4] (fun t3 t4 wr => ∃ (u : Nat) (l : List UInt8), t3 = .int .u64 (u : Int) ∧ t4 = .string (bsOf l) ∧ DecAt U u l ∧ Below w.heap.size w wr) (fun t3 t4 _ => (intOf t3).toNat + nilNat t4)
  case atStart => exact ⟨U, [], rfl, rfl, ⟨fun _ => by simp, fun h => .inr ⟨rfl, h⟩, Nat.le_refl _, by simp⟩, bid w⟩
  case round =>
    obtain ⟨u, l, rfl, rfl, hd, hb⟩ := hrel
    have hd4 := hd.2.2.2
    have hd3 := hd.2.2.1
    have HDA := hid hd
    have HB := hid hb
    have j1 : (u : Int) ≤ 9223372036854775807 := by omega
    have j2 : (0 : Int) ≤ (u : Int) := by omega
    clear hd hb i1 i2 i3
    by_cases hu : 0 < u
    · have j3 : (0 : Int) < (u : Int) := by omega
      have e0 : 0 ≤ (u : Int) % 10 := by omega
      have e1 : (u : Int) % 10 < 10 := by omega
      have hdt := digit_text ((u : Int) % 10) e0 e1
      rw [show ((u : Int) % 10).toNat = u % 10 by omega] at hdt
      have HNX := hid (HDA.out.next HD.out (.inl hu))
      have HQ := hid (show (u : Int) / 10 = ((u / 10 : Nat) : Int) by omega)
      have hlen : ¬ 9223372036854775807 < (bsOf [UInt8.ofNat (48 + u % 10)]).size + (bsOf l).size := by rw [bsOf_size, bsOf_size]; simp; omega
      have hap := bsOf_append [UInt8.ofNat (48 + u % 10)] l
      generalize UInt8.ofNat (48 + u % 10) = b0 at hdt hlen hap HNX
      clear hd3 hd4
      go_wp2
      go_roundw
      case rel => exact ⟨u / 10, b0 :: l, by first | rfl | (rw [HQ.out]; done) | exact congrArg _ HQ.out, by first | rfl | exact congrArg _ hap, HNX.out, bnew HB.out _⟩
      case measure =>
        simp only [intOf, nilNat]
        have : (u : Int).toNat = u := by omega
        have h2 : ((u : Int) / 10).toNat = u / 10 := by omega
        (try rw [this])
        (try rw [h2])
        have h3 : ¬ (bsOf (b0 :: l)).size = 0 := by rw [bsOf_size]; simp
        have h4 : ¬ (bsOf [b0] ++ bsOf l).size = 0 := by rw [bsOf_append, bsOf_size]; simp
        (try rw [if_neg h3])
        (try rw [if_neg h4])
        omega
    · obtain rfl : u = 0 := by omega
      clear hu
      cases l with
      | nil =>
        have hdt : ∀ W : World, (convert 78 9 (.slice (some ⟨W.heap.size, 0, none⟩) 1 1)).run Tryd.prog (W.alloc (.cells #[.int .u8 48] 5)) = .ok (.string (bsOf [48])) (W.alloc (.cells #[.int .u8 48] 5)) := fun W => digit_text 0 (by decide) (by decide) W
        have HNX := hid (HDA.out.next HD.out (.inr rfl))
        have hap := bsOf_append [48] []
        have he : (bsOf []).toList = [] := toList_mk _
        have hlen : ¬ 9223372036854775807 < (bsOf [48]).size + (bsOf []).size := by rw [bsOf_size, bsOf_size]; simp
        clear hd3 hd4
        go_wp2
        go_roundw
        case rel => exact ⟨0, [48], by first | rfl | decide, by first | rfl | exact congrArg _ hap, HNX.out, bnew HB.out _⟩
        case measure => decide
      | cons x r =>
        have HL := hid (show x :: r = Lib.decDigits U by
          rcases HDA.out.2.1 rfl with h | ⟨h, _⟩
          · exact h
          · cases h)
        have he : (bsOf (x :: r)).toList = x :: r := toList_mk _
        have i3 : ¬ (U : Int) < 0 := by omega
        clear hd3 hd4
        go_wp2
        go_ret
        exact ⟨by rw [← HL.out]; rfl, HB.out⟩

set_option maxRecDepth 100000 in
set_option maxHeartbeats 2000000 in
theorem dec_neg (U : Nat) (h1U : 1 ≤ U) (hU : U ≤ 9223372036854775808) (w : World) :
    Calls Tryd.prog 18 #[.int .i64 (-(U : Int))] w fun e w' => e = .returned (.string (bsOf (45 :: Lib.decDigits U))) ∧ Below w.heap.size w w' := by
  have hD := Lib.itoa_length_le (-(U : Int)) (by omega) (by omega)
  rw [Lib.itoa_neg U h1U, List.length_cons] at hD
  replace hD : (Lib.decDigits U).length ≤ 21 := by omega
  obtain ⟨m, hm⟩ : ∃ m, IntKind.u64.wrap (-(U : Int)) = m := ⟨_, rfl⟩
  have hm2 : IntKind.u64.wrap (-m) = (U : Int) := by
    rw [← hm, IntKind.wrap_u64, IntKind.wrap_u64]
    omega
  have HD := hid hD
  have HU := hid hU
  have i1 : (0 : Int) ≤ (U : Int) := by omega
  have i2 : (U : Int) ≤ 9223372036854775808 := by omega
  have i3 : -(U : Int) < 0 := by omega
  clear hD
  go_enter Tryd.func18, Tryd.ntmps18
  go_wp2
  go_loopw [3, 4] (fun t3 t4 wr => ∃ (u : Nat) (l : List UInt8), t3 = .int .u64 (u : Int) ∧ t4 = .string (bsOf l) ∧ DecAt U u l ∧ Below w.heap.size w wr) (fun t3 t4 _ => (intOf t3).toNat + nilNat t4)
  case atStart => exact ⟨U, [], rfl, rfl, ⟨fun _ => by simp, fun h => .inr ⟨rfl, h⟩, Nat.le_refl _, by simp⟩, bid w⟩
  case round =>
    obtain ⟨u, l, rfl, rfl, hd, hb⟩ := hrel
    have hd4 := hd.2.2.2
    have hd3 := hd.2.2.1
    have HDA := hid hd
    have HB := hid hb
    have j1 : (u : Int) ≤ 9223372036854775808 := by omega
    have j2 : (0 : Int) ≤ (u : Int) := by omega
    clear hd hb i1 i2 i3 hm hm2
    by_cases hu : 0 < u
    · have j3 : (0 : Int) < (u : Int) := by omega
      have e0 : 0 ≤ (u : Int) % 10 := by omega
      have e1 : (u : Int) % 10 < 10 := by omega
      have hdt := digit_text ((u : Int) % 10) e0 e1
      rw [show ((u : Int) % 10).toNat = u % 10 by omega] at hdt
      have HNX := hid (HDA.out.next HD.out (.inl hu))
      have HQ := hid (show (u : Int) / 10 = ((u / 10 : Nat) : Int) by omega)
      have hlen : ¬ 9223372036854775807 < (bsOf [UInt8.ofNat (48 + u % 10)]).size + (bsOf l).size := by rw [bsOf_size, bsOf_size]; simp; omega
      have hap := bsOf_append [UInt8.ofNat (48 + u % 10)] l
      generalize UInt8.ofNat (48 + u % 10) = b0 at hdt hlen hap HNX
      clear hd3 hd4
      go_wp2
      go_roundw
      case rel => exact ⟨u / 10, b0 :: l, by first | rfl | (rw [HQ.out]; done) | exact congrArg _ HQ.out, by first | rfl | exact congrArg _ hap, HNX.out, bnew HB.out _⟩
      case measure =>
        simp only [intOf, nilNat]
        have : (u : Int).toNat = u := by omega
        have h2 : ((u : Int) / 10).toNat = u / 10 := by omega
        (try rw [this])
        (try rw [h2])
        have h3 : ¬ (bsOf (b0 :: l)).size = 0 := by rw [bsOf_size]; simp
        have h4 : ¬ (bsOf [b0] ++ bsOf l).size = 0 := by rw [bsOf_append, bsOf_size]; simp
        (try rw [if_neg h3])
        (try rw [if_neg h4])
        omega
    · obtain rfl : u = 0 := by omega
      clear hu
      cases l with
      | nil =>
        have hdt : ∀ W : World, (convert 78 9 (.slice (some ⟨W.heap.size, 0, none⟩) 1 1)).run Tryd.prog (W.alloc (.cells #[.int .u8 48] 5)) = .ok (.string (bsOf [48])) (W.alloc (.cells #[.int .u8 48] 5)) := fun W => digit_text 0 (by decide) (by decide) W
        have HNX := hid (HDA.out.next HD.out (.inr rfl))
        have hap := bsOf_append [48] []
        have he : (bsOf []).toList = [] := toList_mk _
        have hlen : ¬ 9223372036854775807 < (bsOf [48]).size + (bsOf []).size := by rw [bsOf_size, bsOf_size]; simp
        clear hd3 hd4
        go_wp2
        go_roundw
        case rel => exact ⟨0, [48], by first | rfl | decide, by first | rfl | exact congrArg _ hap, HNX.out, bnew HB.out _⟩
        case measure => decide
      | cons x r =>
        have HL := hid (show x :: r = Lib.decDigits U by
          rcases HDA.out.2.1 rfl with h | ⟨h, _⟩
          · exact h
          · cases h)
        have he : (bsOf (x :: r)).toList = x :: r := toList_mk _
        have i3 : -(U : Int) < 0 := by have := h1U; omega
        have hap := bsOf_append [45] (x :: r)
        have hlen : ¬ 9223372036854775807 < 1 + (bsOf (x :: r)).size := by rw [bsOf_size]; omega
        have hd5 : (x :: r).length ≤ 21 := hd4
        clear hd3 hd4
        go_wp2
        go_ret
        refine ⟨?_, HB.out⟩
        rw [← HL.out]
        first | rfl | (show Ending.returned (.string _) = _; congr 2)

theorem Decimal_all (n : Int) (hn : -9223372036854775808 ≤ n ∧ n ≤ 9223372036854775807) (w : World) :
    Calls Tryd.prog 18 #[.int .i64 n] w fun e w' => e = .returned (.string (bsOf (Lib.itoa n))) ∧ Below w.heap.size w w' := by
  obtain ⟨h0, h1⟩ := hn
  by_cases h : n < 0
  · obtain ⟨U, rfl⟩ : ∃ U : Nat, n = -(U : Int) := ⟨n.natAbs, by omega⟩
    rw [Lib.itoa_neg U (by omega)]
    exact dec_neg U (by omega) (by omega) w
  · obtain ⟨U, rfl⟩ : ∃ U : Nat, n = (U : Int) := ⟨n.toNat, by omega⟩
    rw [Lib.itoa_nonneg]
    exact dec_nonneg U (by omega) w

end Go.Proofs.YtbobjhadckeieaaDoor
