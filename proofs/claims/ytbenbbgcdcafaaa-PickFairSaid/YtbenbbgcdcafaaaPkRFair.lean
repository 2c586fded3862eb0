/-
  The document's Fair.
-/
import Derived.Test.YtbenbbgcdcafaaaPkFair
namespace Go.Proofs.Ytbenbbgcdcafaaa
open Go.RowKit
set_option linter.unusedVariables false

/-- One thread has one of each k picks up to m. -/
def FairOne (ts : List Int) (t : Nat) (k : Int) (m : Nat) : Prop := ∀ i : Nat, (i : Int) + k ≤ m → ∃ j : Nat, i ≤ j ∧ (j : Int) < i + k ∧ ts[j]? = some (t : Int)
/-- Ahead of round i: behind L - 1 it had none. -/
structure GapAt (ts : List Int) (t : Nat) (k : Int) (L i : Nat) : Prop where
  le : L ≤ i
  no : ∀ j, L ≤ j → j < i → ts[j]? ≠ some (t : Int)
  yes : L = 0 ∨ ∃ q, L = q + 1 ∧ ts[q]? = some (t : Int)
  fair : FairOne ts t k L
theorem GapAt.start (ts : List Int) (t : Nat) (k : Int) (hk : 1 ≤ k) : GapAt ts t k 0 0 := ⟨Nat.le_refl _, fun j h1 h2 => by omega, .inl rfl, fun i hi => by omega⟩
theorem GapAt.other {ts : List Int} {t : Nat} {k : Int} {L i : Nat} (h : GapAt ts t k L i) {x : Int} (hx : ts[i]? = some x) (hne : x ≠ t) : GapAt ts t k L (i + 1) := by
  refine ⟨by have := h.le; omega, fun j h1 h2 e => ?_, h.yes, h.fair⟩
  rcases Nat.lt_or_ge j i with h' | h'
  · exact h.no j h1 h' e
  · obtain rfl : j = i := by omega
    rw [hx] at e
    cases e
    exact hne rfl
theorem GapAt.upto {ts : List Int} {t : Nat} {k : Int} {L i : Nat} (h : GapAt ts t k L i) (hk : 1 ≤ k) (hg : (i : Int) - L < k) : FairOne ts t k i := by
  intro s hs
  rcases Int.lt_or_le (L : Int) ((s : Int) + k) with h' | h'
  · rcases h.yes with h0 | ⟨q, hq, hqt⟩
    · omega
    · exact ⟨q, by omega, by omega, hqt⟩
  · exact h.fair s h'
theorem GapAt.this {ts : List Int} {t : Nat} {k : Int} {L i : Nat} (h : GapAt ts t k L i) (hk : 1 ≤ k) (hg : (i : Int) - L < k) (hx : ts[i]? = some (t : Int)) : GapAt ts t k (i + 1) (i + 1) := by
  refine ⟨Nat.le_refl _, fun j h1 h2 => by omega, .inr ⟨i, rfl, hx⟩, fun s hs => ?_⟩
  rcases Int.lt_or_le (i : Int) ((s : Int) + k) with h' | h'
  · exact ⟨i, by omega, by omega, hx⟩
  · exact h.upto hk hg s h'
theorem GapAt.bad {ts : List Int} {t : Nat} {n k : Int} {L i : Nat} (h : GapAt ts t k L i) (hi : i ≤ ts.length) (hg : k ≤ (i : Int) - L) (ht : (t : Int) < n) : ¬ FairP ts n k := by
  rintro ⟨_, _, hk, hf⟩
  obtain ⟨j, h1, h2, h3⟩ := hf L (by omega) t ht
  exact h.no j h1 (by omega) h3
theorem fairTo_all {ts : List Int} {n : Nat} {k : Int} {m : Nat} (h : ∀ t, t < n → FairOne ts t k m) : FairTo ts n k m := fun i hi t ht => h t (by omega) i hi

/-- The inner loop's state. -/
def GapS (ts : List Int) (t : Nat) (k : Int) (len L i : Nat) : Prop := (i ≤ len ∧ GapAt ts t k L i) ∨ (i = len + 1 ∧ FairOne ts t k len)

set_option maxRecDepth 100000 in
set_option maxHeartbeats 4000000 in
theorem RFair_any (a : Option Addr) (len cap : Nat) (ps : List Pk) (n k : Int) (w : World) (hr : PkRow w a len ps) (hl : len ≤ 1000) (hkb : -9223372036854775808 ≤ k) (hkt : k ≤ 9223372036854775807) :
    Calls Try.prog 15 #[.slice a len cap, .int .i64 n, .int .i64 k] w fun e w' => e = .returned (.bool (fairB (whoOf ps) n k)) ∧ Below w.heap.size w w' := by
  have HR := hid hr
  clear hr
  by_cases h1 : n < 1
  · have HN : Hid (fairB (whoOf ps) n k = false) := hid (fairB_no fun h => by have := h.1; omega)
    go_enter Try.func15, Try.ntmps15
    go_wp2
    go_ret
    exact ⟨by rw [HN.out]; rfl, Below.refl _ _⟩
  · by_cases h2 : 4 < n
    · have HN : Hid (fairB (whoOf ps) n k = false) := hid (fairB_no fun h => by have := h.2.1; omega)
      go_enter Try.func15, Try.ntmps15
      go_wp2
      go_ret
      exact ⟨by rw [HN.out]; rfl, Below.refl _ _⟩
    · by_cases h3 : k < 1
      · have HN : Hid (fairB (whoOf ps) n k = false) := hid (fairB_no fun h => by have := h.2.2.1; omega)
        go_enter Try.func15, Try.ntmps15
        go_wp2
        go_ret
        exact ⟨by rw [HN.out]; rfl, Below.refl _ _⟩
      · obtain ⟨n, rfl⟩ : ∃ n' : Nat, n = (n' : Int) := ⟨n.toNat, by omega⟩
        have hk0 : 1 ≤ k := by omega
        have HCN := hid HR.out.cnt
        have HLN : Hid ((whoOf ps).length = len) := hid (by unfold whoOf; rw [List.length_map, HCN.out])
        go_enter Try.func15, Try.ntmps15
        go_wp2_with fail
        go_loop [7] (fun tv => ∃ t : Nat, t ≤ n ∧ tv = .int .i64 t ∧ Hid (∀ t', t' < t → FairOne (whoOf ps) t' k len)) (fun tv => n - (intOf tv).toNat)
        case atStart => exact ⟨0, Nat.zero_le _, rfl, hid fun t' h => by omega⟩
        case round =>
          obtain ⟨t, htn, rfl, HF⟩ := hrel
          by_cases hlt : t < n
          · go_wp2_with fail
            go_loop [8, 9] (fun lv iv => ∃ (L i : Nat), L ≤ i ∧ i ≤ len + 1 ∧ lv = .int .i64 ((L : Int) - 1) ∧ iv = .int .i64 i ∧ Hid (GapS (whoOf ps) t k len L i)) (fun _ iv => len + 1 - (intOf iv).toNat)
            case atStart => exact ⟨0, 0, Nat.le_refl _, Nat.zero_le _, rfl, rfl, hid (.inl ⟨Nat.zero_le _, GapAt.start _ _ _ hk0⟩)⟩
            case round =>
              obtain ⟨L, i, hLi, hil, rfl, rfl, HG⟩ := hrel
              by_cases hle : i ≤ len
              · have HGA : Hid (GapAt (whoOf ps) t k L i) := hid (by
                  rcases HG.out with h | h
                  · exact h.2
                  · omega)
                clear HG
                by_cases hlt2 : i < len
                · obtain ⟨b, off, rfl, hbl, hcell⟩ := HR.out.at (by omega)
                  obtain ⟨p, hp⟩ : ∃ p, ps[i]? = some p := ⟨_, List.getElem?_eq_getElem (by have := HCN.out; omega)⟩
                  have HW : Hid ((whoOf ps)[i]? = some p.t) := hid (by unfold whoOf; rw [List.getElem?_map, hp]; rfl)
                  obtain ⟨x0, x1, x2⟩ := hcell i _ hp
                  clear hcell hp
                  obtain ⟨x, ab, d⟩ := p
                  dsimp only at x0 x1 x2 HW
                  by_cases hx : x = t
                  · subst hx
                    by_cases hg : k ≤ (i : Int) - L
                    · have hg2 : k ≤ (i : Int) - ((L : Int) - 1) - 1 := by omega
                      have HN : Hid (fairB (whoOf ps) n k = false) := hid (fairB_no (HGA.out.bad (by rw [HLN.out]; omega) hg (by omega)))
                      go_wp2
                      go_ret
                      exact ⟨by rw [HN.out]; rfl, Below.refl _ _⟩
                    · have hg2 : ¬ k ≤ (i : Int) - ((L : Int) - 1) - 1 := by omega
                      go_wp2
                      go_round
                      case rel => exact ⟨i + 1, i + 1, by omega, by omega, by go_num, by go_num, hid (.inl ⟨by omega, HGA.out.this hk0 (by omega) HW.out⟩)⟩
                      case measure => simp [intOf] <;> omega
                  · have hx2 : (x == (t : Int)) = false := by simpa using hx
                    have HX := hid hx
                    clear hx
                    go_wp2
                    go_round
                    case rel => exact ⟨L, i + 1, by omega, by omega, by trivial, by go_num, hid (.inl ⟨by omega, HGA.out.other HW.out HX.out⟩)⟩
                    case measure => simp [intOf] <;> omega
                · obtain rfl : i = len := by omega
                  by_cases hg : k ≤ (i : Int) - L
                  · have hg2 : k ≤ (i : Int) - ((L : Int) - 1) - 1 := by omega
                    have HN : Hid (fairB (whoOf ps) n k = false) := hid (fairB_no (HGA.out.bad (by rw [HLN.out]; omega) hg (by omega)))
                    go_wp2
                    go_ret
                    exact ⟨by rw [HN.out]; rfl, Below.refl _ _⟩
                  · have hg2 : ¬ k ≤ (i : Int) - ((L : Int) - 1) - 1 := by omega
                    go_wp2
                    go_round
                    case rel => exact ⟨i + 1, i + 1, by omega, by omega, by go_num, by go_num, hid (.inr ⟨rfl, HGA.out.upto hk0 (by omega)⟩)⟩
                    case measure => simp [intOf] <;> omega
              · have HFO : Hid (FairOne (whoOf ps) t k len) := hid (by
                  rcases HG.out with h | h
                  · omega
                  · exact h.2)
                go_wp2
                go_round
                case rel =>
                  refine ⟨t + 1, by omega, by go_num, hid fun t' h => ?_⟩
                  rcases Nat.lt_or_ge t' t with h' | h'
                  · exact HF.out t' h'
                  · obtain rfl : t' = t := by omega
                    exact HFO.out
                case measure => simp [intOf] <;> omega
          · obtain rfl : t = n := by omega
            have HN : Hid (fairB (whoOf ps) t k = true) := hid (fairB_yes ⟨by omega, by omega, hk0, by rw [HLN.out]; exact fairTo_all HF.out⟩)
            go_wp2
            go_ret
            exact ⟨by rw [HN.out]; rfl, Below.refl _ _⟩

end Go.Proofs.Ytbenbbgcdcafaaa
