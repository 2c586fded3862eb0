/-
  Texts cut at a byte; decimal numerals read back. No program in this text.
-/
import Derived.Lib.SplitLaws
import Derived.Lib.ParseIntB
import Derived.Lib.ItoaNum
namespace Go.Proofs.YtbobjhadckeieaaGreatDoor
open Go.Lib
set_option linter.unusedVariables false

def bsOf (l : List UInt8) : ByteArray := ⟨l.toArray⟩
theorem bsOf_data (l : List UInt8) : (bsOf l).data.toList = l := rfl
theorem bsOf_self (b : ByteArray) : bsOf b.data.toList = b := by
  unfold bsOf
  apply ByteArray.ext
  simp
theorem bsOf_size (l : List UInt8) : (bsOf l).size = l.length := by simp [bsOf, ByteArray.size]
theorem bsOf_inj {a b : List UInt8} (h : bsOf a = bsOf b) : a = b := by
  have := congrArg (fun x : ByteArray => x.data.toList) h
  exact this
theorem bsOf_append (a b : List UInt8) : bsOf a ++ bsOf b = bsOf (a ++ b) := by
  apply ByteArray.ext
  simp [bsOf]

/-- A text's pieces between the bytes c. -/
def cutAt (c : UInt8) : List UInt8 → List (List UInt8)
  | [] => [[]]
  | x :: r => if x = c then [] :: cutAt c r else match cutAt c r with
    | [] => [[x]]
    | h :: t => (x :: h) :: t

theorem cutAt_ne (c : UInt8) (s : List UInt8) : cutAt c s ≠ [] := by
  cases s with
  | nil => simp [cutAt]
  | cons x r =>
    unfold cutAt
    split
    · simp
    · split <;> simp
theorem cutAt_none {c : UInt8} {s : List UInt8} (h : c ∉ s) : cutAt c s = [s] := by
  induction s with
  | nil => rfl
  | cons x r ih =>
    have h1 : ¬ x = c := fun e => h (by simp [e])
    have h2 : c ∉ r := fun e => h (by simp [e])
    unfold cutAt
    rw [if_neg h1, ih h2]
theorem cutAt_hit {c : UInt8} {pre : List UInt8} (h : c ∉ pre) (post : List UInt8) : cutAt c (pre ++ c :: post) = pre :: cutAt c post := by
  induction pre with
  | nil => simp [cutAt]
  | cons x r ih =>
    have h1 : ¬ x = c := fun e => h (by simp [e])
    have h2 : c ∉ r := fun e => h (by simp [e])
    rw [List.cons_append]
    conv => lhs; unfold cutAt
    rw [if_neg h1, ih h2]
theorem first_of {c : UInt8} {s : List UInt8} (h : c ∈ s) : ∃ pre post, s = pre ++ c :: post ∧ c ∉ pre := by
  induction s with
  | nil => simp at h
  | cons x r ih =>
    by_cases e : x = c
    · exact ⟨[], r, by simp [e], by simp⟩
    · have : c ∈ r := by
        rcases List.mem_cons.1 h with h | h
        · exact absurd h.symm e
        · exact h
      obtain ⟨pre, post, rfl, hp⟩ := ih this
      refine ⟨x :: pre, post, by simp, ?_⟩
      intro hm
      rcases List.mem_cons.1 hm with hm | hm
      · exact e hm.symm
      · exact hp hm

theorem occ_one (s : List UInt8) (c : UInt8) (i : Nat) : occAt s [c] i = decide (s[i]? = some c) := by
  unfold occAt
  rw [← List.head?_drop]
  cases h : s.drop i with
  | nil => simp [List.isPrefixOf]
  | cons x r =>
    simp only [List.isPrefixOf, Bool.and_true, List.head?_cons, Option.some.injEq]
    by_cases e : c = x
    · subst e; simp
    · have e' : ¬ x = c := fun h => e h.symm
      simp [e, e']
theorem index_one_miss {s : List UInt8} {c : UInt8} (h : c ∉ s) : Lib.index s [c] = -1 := by
  refine index_none fun j hj => ?_
  rw [occ_one]
  refine decide_eq_false fun e => h ?_
  exact List.mem_of_getElem? e
theorem index_one_hit {pre post : List UInt8} {c : UInt8} (h : c ∉ pre) : Lib.index (pre ++ c :: post) [c] = pre.length := by
  refine index_first (by simp) ?_ fun j hj => ?_
  · rw [occ_one]; simp
  · rw [occ_one]
    refine decide_eq_false fun e => h ?_
    rw [List.getElem?_append_left hj] at e
    exact List.mem_of_getElem? e

theorem split_cut (c : UInt8) : ∀ (n : Nat) (s : List UInt8), s.length ≤ n → splitK [c] 0 (Lib.count s [c]) s = cutAt c s := by
  intro n
  induction n with
  | zero =>
    intro s hs
    have : s = [] := List.length_eq_zero_iff.1 (by omega)
    subst this
    rw [count_miss (index_one_miss (by simp))]
    rfl
  | succ n ih =>
    intro s hs
    by_cases h : c ∈ s
    · obtain ⟨pre, post, rfl, hp⟩ := first_of h
      have hi : Lib.index (pre ++ c :: post) [c] = (pre.length : Int) := index_one_hit hp
      have hd : (pre ++ c :: post).drop (pre.length + [c].length) = post := by simp
      rw [count_hit (by simp) hi, hd, cutAt_hit hp, Nat.add_comm 1]
      unfold splitK
      have hne : ¬ ((pre.length : Int) == -1) = true := by
        intro e
        have := beq_iff_eq.1 e
        omega
      rw [hi, if_neg hne]
      have e1 : (pre.length : Int).toNat = pre.length := by omega
      rw [e1, hd, ih post (by simp at hs; omega)]
      simp
    · rw [count_miss (index_one_miss h), cutAt_none h]
      rfl
theorem splitB_cut (c : UInt8) (s : ByteArray) : splitB ⟨#[c]⟩ 0 (Lib.countB s ⟨#[c]⟩) s = (cutAt c s.data.toList).map bsOf := by
  have h := splitB_data ⟨#[c]⟩ 0 (Lib.countB s ⟨#[c]⟩) s
  have h2 : splitK [c] 0 (Lib.count s.data.toList [c]) s.data.toList = cutAt c s.data.toList := split_cut c _ _ (Nat.le_refl _)
  rw [show (⟨#[c]⟩ : ByteArray).data.toList = [c] from rfl] at h
  rw [show Lib.countB s ⟨#[c]⟩ = Lib.count s.data.toList [c] from rfl] at h ⊢
  rw [h2] at h
  rw [← h, List.map_map]
  have : ∀ l : List ByteArray, l = l.map (bsOf ∘ fun x => x.data.toList) := by
    intro l
    induction l with
    | nil => rfl
    | cons a l ih => rw [List.map_cons, ← ih]; simp [bsOf_self]
  exact this _
theorem countB_cut (c : UInt8) (s : ByteArray) : Lib.countB s ⟨#[c]⟩ + 1 = (cutAt c s.data.toList).length := by
  have h := splitB_cut c s
  have h2 : (splitB ⟨#[c]⟩ 0 (Lib.countB s ⟨#[c]⟩) s).length = Lib.countB s ⟨#[c]⟩ + 1 := splitB_all ⟨#[c]⟩ (Nat.le_refl 1) 0 _ s rfl
  rw [h, List.length_map] at h2
  exact h2.symm

/-! Numerals -/

theorem decDigits_small {u : Nat} (h : u < 10) : decDigits u = [UInt8.ofNat (48 + u)] := by rw [decDigits, dif_pos h]
theorem decDigits_big {u : Nat} (h : ¬ u < 10) : decDigits u = decDigits (u / 10) ++ [UInt8.ofNat (48 + u % 10)] := by rw [decDigits, dif_neg h]
theorem dig_nat {d : Nat} (h : d < 10) : (UInt8.ofNat (48 + d)).toNat = 48 + d := by
  rw [UInt8.toNat_ofNat']
  omega
theorem decDigits_ne (u : Nat) : decDigits u ≠ [] := by
  by_cases h : u < 10
  · rw [decDigits_small h]; simp
  · rw [decDigits_big h]; simp
theorem decDigits_mem (u : Nat) : ∀ x ∈ decDigits u, 48 ≤ x.toNat ∧ x.toNat ≤ 57 := by
  induction u using Nat.strongRecOn with
  | _ u ih =>
    intro x hx
    by_cases h : u < 10
    · rw [decDigits_small h] at hx
      simp only [List.mem_singleton] at hx
      subst hx
      rw [dig_nat h]; omega
    · rw [decDigits_big h] at hx
      rcases List.mem_append.1 hx with hx | hx
      · exact ih (u / 10) (by omega) x hx
      · simp only [List.mem_singleton] at hx
        subst hx
        rw [dig_nat (by omega)]; omega

theorem parse_dec (M : Nat) (hM : M < 18446744073709551616) : ∀ (u : Nat) (rest : List UInt8), u ≤ M → parseUintM M 0 (decDigits u ++ rest) = parseUintM M u rest := by
  intro u
  induction u using Nat.strongRecOn with
  | _ u ih =>
    intro rest hu
    by_cases h : u < 10
    · rw [decDigits_small h, List.singleton_append]
      conv => lhs; unfold parseUintM
      rw [dig_nat h, if_pos (by omega), if_neg (by omega), if_neg (by omega)]
      congr 1; omega
    · rw [decDigits_big h, List.append_assoc, ih (u / 10) (by omega) _ (by omega), List.singleton_append]
      conv => lhs; unfold parseUintM
      rw [dig_nat (show u % 10 < 10 by omega), if_pos (by omega), if_neg (by omega), if_neg (by omega)]
      congr 1; omega
theorem parse_itoa (n : Int) (h0 : -9223372036854775808 ≤ n) (h1 : n ≤ 9223372036854775807) : parseIntB 64 (itoa n) = .ok n := by
  have hd : ∀ u : Nat, u ≤ 18446744073709551615 → parseUintB 64 (decDigits u) = .ok u := by
    intro u hu
    unfold parseUintB
    rw [if_neg (decDigits_ne u)]
    have := parse_dec (2 ^ 64 - 1) (by decide) u [] (by simpa using hu)
    rw [List.append_nil] at this
    rw [this]
    rfl
  unfold itoa
  by_cases hn : n < 0
  · rw [if_pos hn]
    unfold parseIntB
    dsimp only
    rw [if_pos (by decide), hd _ (by omega)]
    dsimp only
    rw [if_neg (fun h => h.1 (by decide)), if_neg (by simp; omega), if_pos (by decide)]
    congr 1; omega
  · rw [if_neg hn]
    cases hl : decDigits n.toNat with
    | nil => exact absurd hl (decDigits_ne _)
    | cons c r =>
      have hc := decDigits_mem n.toNat c (by rw [hl]; simp)
      unfold parseIntB
      dsimp only
      rw [if_neg (by omega), ← hl, hd _ (by omega)]
      dsimp only
      rw [if_neg (by simp; omega), if_neg (by omega), if_neg (by omega)]
      congr 1; omega
/-- What stands in a numeral. -/
theorem itoa_mem (n : Int) : ∀ x ∈ itoa n, x.toNat = 45 ∨ (48 ≤ x.toNat ∧ x.toNat ≤ 57) := by
  intro x hx
  unfold itoa at hx
  split at hx
  · rcases List.mem_cons.1 hx with hx | hx
    · exact .inl (by rw [hx]; rfl)
    · exact .inr (decDigits_mem _ x hx)
  · exact .inr (decDigits_mem _ x hx)
theorem itoa_not (n : Int) (c : UInt8) (h : c.toNat < 45) : c ∉ itoa n := fun hm => by
  rcases itoa_mem n c hm with h1 | h1 <;> omega

end Go.Proofs.YtbobjhadckeieaaGreatDoor
