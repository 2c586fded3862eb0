/-
  The open blocks and the mates so far: what the search for an OElse's OIf leans on.
-/
import Derived.Test.YtblalejegjieaaaGreatDoorMates
namespace Go.Proofs.YtblalejegjieaaaGreatDoor
open Go.RowKit
set_option linter.unusedVariables false

/-- What more stays so: where an OElse's OIf is told. -/
structure MOld (os : List Int) (k : Nat) (s : MSt) : Prop where
  low : ∀ i, i < k → s.ms.getD i 0 < (k : Int)
  one : ∀ i j, i < k → j < k → s.ms.getD i 0 = s.ms.getD j 0 → 0 ≤ s.ms.getD i 0 → os.getD (s.ms.getD i 0).toNat 0 = 19 → i = j
  top : ∀ p ∈ s.op, (p.1 = p.2 ∧ os.getD p.2 0 ≠ 19) ∨ (os.getD p.2 0 = 19 ∧ p.1 < p.2 ∧ s.ms.getD p.1 0 = (p.2 : Int))
  rise : s.op.Pairwise fun p q => p.2 < q.1

theorem getD_set (l : List Int) (i j : Nat) (v : Int) : (l.set i v).getD j 0 = if i = j ∧ j < l.length then v else l.getD j 0 := by
  simp only [List.getD_eq_getElem?_getD, List.getElem?_set]
  by_cases h : i = j
  · subst h
    by_cases h2 : i < l.length
    · simp [h2]
    · simp [h2]
  · simp [h]

theorem MOld.step {os : List Int} {n k : Nat} {s s' : MSt} (h : MOld os k s) (hv : MInv n k s) (hk : k < n) (hs : mstep os k s = some s') : MOld os (k + 1) s' := by
  obtain ⟨h1, h2, h3, h4⟩ := h
  have hlen := hv.len
  have hlt := hv.lt
  have gk : ∀ j, (s.ms.set k (-1)).getD j 0 = if k = j then -1 else s.ms.getD j 0 := fun j => by
    rw [getD_set]
    by_cases e : k = j
    · rw [if_pos ⟨e, by omega⟩, if_pos e]
    · rw [if_neg (fun h => e h.1), if_neg e]
  -- the two ways in which nothing but place k is turned
  have plain : ∀ (op' : List (Nat × Nat)), (∀ p ∈ op', p ∈ s.op ∨ (p = (k, k) ∧ os.getD k 0 ≠ 19)) → (op'.Pairwise fun p q => p.2 < q.1) → MOld os (k + 1) ⟨s.ms.set k (-1), op'⟩ := by
    intro op' hop hr
    refine ⟨fun i hi => ?_, fun i j hi hj e e0 e19 => ?_, fun p hp => ?_, hr⟩
    · dsimp only
      rw [gk]
      split
      · omega
      · have := h1 i (by omega); omega
    · dsimp only at e e0 e19
      rw [gk] at e e0 e19
      rw [gk j] at e
      by_cases ei : k = i
      · rw [if_pos ei] at e0; omega
      · rw [if_neg ei] at e e0 e19
        by_cases ej : k = j
        · rw [if_pos ej] at e; omega
        · rw [if_neg ej] at e
          exact h2 i j (by omega) (by omega) e e0 e19
    · rcases hop p hp with hp | ⟨rfl, h19⟩
      · have := hlt p hp
        dsimp only
        rw [gk, if_neg (by omega)]
        exact h3 p hp
      · exact .inl ⟨rfl, h19⟩
  unfold mstep at hs
  split at hs
  · rename_i hin
    cases hs
    refine plain _ (fun p hp => ?_) ?_
    · rcases List.mem_append.1 hp with hp | hp
      · exact .inl hp
      · simp at hp
        subst hp
        refine .inr ⟨rfl, fun e => ?_⟩
        rw [e] at hin
        exact absurd hin (by decide)
    · rw [List.pairwise_append]
      refine ⟨h4, by simp, fun a ha b hb => ?_⟩
      simp at hb
      subst hb
      exact (hlt a ha).2
  · split at hs
    · rename_i hout
      split at hs
      · cases hs
      · rename_i fr la hl
        split at hs
        · rename_i hf
          cases hs
          obtain ⟨t, ht⟩ : ∃ t, s.op = t ++ [(fr, la)] := by
            rcases nil_or_snoc s.op with e | ⟨t, x, e⟩
            · rw [e] at hl; simp at hl
            · rw [e] at hl
              simp at hl
              exact ⟨t, by rw [e, hl]⟩
          have hla := hlt (fr, la) (by rw [ht]; simp)
          dsimp only at hla
          have hd : s.op.dropLast = t := by rw [ht]; simp
          rw [hd]
          rw [ht] at h4
          rw [List.pairwise_append] at h4
          obtain ⟨h4t, _, h4x⟩ := h4
          have h4x := fun p hp => h4x p hp (fr, la) (by simp)
          have hfl : fr ≤ la := by
            rcases h3 (fr, la) (by rw [ht]; simp) with ⟨e, _⟩ | ⟨_, e, _⟩
            · exact Nat.le_of_eq e
            · exact Nat.le_of_lt e
          -- what the joined list holds
          have gj : ∀ j, (mjoin (s.ms.set k (-1)) (os.getD k 0) la k).getD j 0 = if la = j then (k : Int) else if k = j then (if os.getD k 0 = 22 ∨ os.getD k 0 = 14 then (la : Int) else -1) else s.ms.getD j 0 := by
            intro j
            unfold mjoin
            rw [getD_set]
            by_cases e1 : la = j
            · rw [if_pos ⟨e1, by split <;> simp <;> omega⟩, if_pos e1]
            · rw [if_neg (fun h => e1 h.1), if_neg e1]
              by_cases e2 : os.getD k 0 = 22 ∨ os.getD k 0 = 14
              · rw [if_pos e2, getD_set, gk]
                by_cases e3 : k = j
                · rw [if_pos ⟨e3, by simp; omega⟩, if_pos e3, if_pos e2]
                · rw [if_neg (fun h => e3 h.1), if_neg e3, if_neg e3]
              · rw [if_neg e2, gk]
                by_cases e3 : k = j
                · rw [if_pos e3, if_pos e3, if_neg e2]
                · rw [if_neg e3, if_neg e3]
          have hla19 : os.getD k 0 = 22 ∨ os.getD k 0 = 14 → os.getD la 0 ≠ 19 := by
            intro h e
            rw [e] at hf
            rcases h with h | h <;> rw [h] at hf <;> exact absurd hf (by decide)
          refine ⟨fun i hi => ?_, fun i j hi hj e e0 e19 => ?_, fun p hp => ?_, ?_⟩
          · dsimp only
            rw [gj]
            split
            · omega
            · split
              · split <;> omega
              · have := h1 i (by omega); omega
          · dsimp only at e e0 e19
            rw [gj] at e e0 e19
            rw [gj j] at e
            have low : ∀ q, q < k + 1 → la ≠ q → k ≠ q → s.ms.getD q 0 < (k : Int) := fun q hq _ hk' => h1 q (by omega)
            by_cases ei : la = i
            · rw [if_pos ei] at e
              by_cases ej : la = j
              · omega
              · rw [if_neg ej] at e
                by_cases ek : k = j
                · rw [if_pos ek] at e; split at e <;> omega
                · rw [if_neg ek] at e; have := low j hj ej ek; omega
            · rw [if_neg ei] at e e0 e19
              by_cases eik : k = i
              · rw [if_pos eik] at e e0 e19
                split at e0
                · rename_i hc
                  rw [if_pos hc] at e19
                  rw [Int.toNat_natCast] at e19
                  exact absurd e19 (hla19 hc)
                · omega
              · rw [if_neg eik] at e e0 e19
                have := low i hi ei eik
                by_cases ej : la = j
                · rw [if_pos ej] at e; omega
                · rw [if_neg ej] at e
                  by_cases ek : k = j
                  · rw [if_pos ek] at e
                    split at e
                    · rename_i hc
                      rw [e, Int.toNat_natCast] at e19
                      exact absurd e19 (hla19 hc)
                    · omega
                  · rw [if_neg ek] at e
                    exact h2 i j (by omega) (by omega) e e0 e19
          · dsimp only at hp ⊢
            have old : ∀ p ∈ t, (p.1 = p.2 ∧ os.getD p.2 0 ≠ 19) ∨ (os.getD p.2 0 = 19 ∧ p.1 < p.2 ∧ (mjoin (s.ms.set k (-1)) (os.getD k 0) la k).getD p.1 0 = (p.2 : Int)) := by
              intro p hp
              have hpm : p ∈ s.op := by rw [ht]; simp [hp]
              have hp2 := hlt p hpm
              have hp3 := h4x p hp
              have hp4 : p.1 ≤ p.2 := by
                rcases h3 p hpm with ⟨e, _⟩ | ⟨_, e, _⟩
                · exact Nat.le_of_eq e
                · exact Nat.le_of_lt e
              dsimp only at hp3
              rw [gj, if_neg (by omega), if_neg (by omega)]
              exact h3 p hpm
            by_cases h19 : os.getD k 0 = 19
            · rw [if_pos h19] at hp
              rcases List.mem_append.1 hp with hp | hp
              · exact old p hp
              · simp at hp
                subst hp
                have hl18 : os.getD la 0 = 18 := by
                  rw [h19] at hf
                  have : (os.getD la 0 == 18) = true := hf
                  simpa using this
                have hfe : fr = la := by
                  rcases h3 (fr, la) (by rw [ht]; simp) with ⟨e, _⟩ | ⟨e, _⟩
                  · exact e
                  · dsimp only at e; omega
                right
                refine ⟨h19, by dsimp only; omega, ?_⟩
                dsimp only
                rw [gj, if_pos hfe.symm]
            · rw [if_neg h19] at hp
              exact old p hp
          · dsimp only
            by_cases h19 : os.getD k 0 = 19
            · rw [if_pos h19, List.pairwise_append]
              exact ⟨h4t, by simp, fun a ha b hb => by simp at hb; subst hb; exact h4x a ha⟩
            · rw [if_neg h19]
              exact h4t
        · cases hs
    · cases hs
      exact plain _ (fun p hp => .inl hp) h4

theorem MOld.start (os : List Int) (n : Nat) : MOld os 0 ⟨List.replicate n 0, []⟩ := ⟨fun i hi => by omega, fun i j hi => by omega, by simp, by simp⟩

end Go.Proofs.YtblalejegjieaaaGreatDoor
