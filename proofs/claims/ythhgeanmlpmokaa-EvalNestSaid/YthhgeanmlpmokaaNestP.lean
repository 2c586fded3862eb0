/-
  Blocks within blocks: what a program that is nested belongs together as; and that without one of its instructions nothing fits.
-/
import Derived.Test.YthhgeanmlpmokaaMOld
namespace Go.Proofs.Ythhgeanmlpmokaa
open Go.RowKit
set_option linter.unusedVariables false

/-- The six that stand in a nest: no OElse. -/
def six (o : Int) : Prop := o = 18 ∨ o = 21 ∨ o = 13 ∨ o = 20 ∨ o = 22 ∨ o = 14
/-- How far in: one more for each that goes in, one less for each that goes out. -/
def dep (o : Int) : Int := if isIn o = true then 1 else if isOut o = true then -1 else 0
def deep (os : List Int) (k : Nat) : Int := ((os.take k).map dep).sum

theorem deep_succ (os : List Int) (k : Nat) (hk : k < os.length) : deep os (k + 1) = deep os k + dep (os.getD k 0) := by
  unfold deep
  rw [List.take_succ_eq_append_getElem hk, List.map_append, List.sum_append]
  simp [List.getD_eq_getElem?_getD, hk]

theorem six_step {os : List Int} {k : Nat} {s s' : MSt} (h6 : six (os.getD k 0)) (hs : mstep os k s = some s') : (s'.op.length : Int) = s.op.length + dep (os.getD k 0) := by
  unfold mstep at hs
  unfold dep
  split at hs
  · rename_i hin
    cases hs
    rw [if_pos hin]
    simp
  · rename_i hin
    rw [if_neg hin]
    split at hs
    · rename_i hout
      rw [if_pos hout]
      split at hs
      · cases hs
      · rename_i fr la hl
        split at hs
        · cases hs
          have h19 : os.getD k 0 ≠ 19 := by rcases h6 with h | h | h | h | h | h <;> omega
          rw [if_neg h19]
          have hpos : 0 < s.op.length := by
            rcases nil_or_snoc s.op with e | ⟨t, x, e⟩
            · rw [e] at hl; simp at hl
            · rw [e]; simp
          simp
          omega
        · cases hs
    · rename_i hout
      exfalso
      rcases h6 with h | h | h | h | h | h <;> rw [h] at hin hout <;> first | exact hin (by decide) | exact hout (by decide)

/-- Where what goes in and what goes out are not as many, nothing fits. -/
theorem mgo_odd (os : List Int) (h6 : ∀ k, k < os.length → six (os.getD k 0)) (hd : deep os os.length ≠ 0) :
    ∀ f k s, k + f = os.length → (s.op.length : Int) = deep os k → ∃ r : Int, mgo os f k s = ([], r) ∧ 0 ≤ r := by
  intro f
  induction f with
  | zero =>
    intro k s hk hs
    have : k = os.length := by omega
    subst this
    unfold mgo mend
    rcases nil_or_snoc s.op with e | ⟨t, ⟨fr, la⟩, e⟩
    · rw [e] at hs
      simp at hs
      exact absurd hs.symm hd
    · rw [e]
      simp
  | succ f ih =>
    intro k s hk hs
    unfold mgo
    split
    · exact ⟨_, rfl, by omega⟩
    · rename_i s' hs'
      refine ih (k + 1) s' (by omega) ?_
      rw [six_step (h6 k (by omega)) hs', hs, deep_succ os k (by omega)]
theorem matesOf_odd (os : List Int) (h6 : ∀ k, k < os.length → six (os.getD k 0)) (hd : deep os os.length ≠ 0) : ∃ r : Int, matesOf os = ([], r) ∧ 0 ≤ r :=
  mgo_odd os h6 hd os.length 0 _ (by omega) (by simp [deep])

/-- What is told of a place that is not open. -/
def Good (os ms : List Int) (k : Nat) (op : List (Nat × Nat)) (i : Nat) : Prop :=
  os.getD i 0 = 20 ∨ (os.getD i 0 = 18 ∧ ∃ j : Nat, ms.getD i 0 = (j : Int) ∧ i < j ∧ j < k ∧ os.getD j 0 = 20) ∨
  (os.getD i 0 ≠ 18 ∧ ∃ j : Nat, ms.getD i 0 = (j : Int) ∧ j < k ∧ ms.getD j 0 = (i : Int) ∧ ∀ p ∈ op, p.2 ≠ j)
structure NInv (os : List Int) (n k : Nat) (s : MSt) : Prop where
  len : s.ms.length = n
  lt : ∀ p ∈ s.op, p.1 = p.2 ∧ p.2 < k
  rise : s.op.Pairwise fun p q => p.2 < q.2
  good : ∀ i, i < k → (∀ p ∈ s.op, p.2 ≠ i) → Good os s.ms k s.op i

theorem NInv.into {os : List Int} {n k : Nat} {s : MSt} (h : NInv os n k s) (hk : k < n) (hin : isIn (os.getD k 0) = true) :
    mstep os k s = some ⟨s.ms.set k (-1), s.op ++ [(k, k)]⟩ ∧ NInv os n (k + 1) ⟨s.ms.set k (-1), s.op ++ [(k, k)]⟩ := by
  obtain ⟨h1, h2, h3, h4⟩ := h
  refine ⟨by unfold mstep; rw [if_pos hin], by simpa using h1, ?_, ?_, ?_⟩
  · intro p hp
    rcases List.mem_append.1 hp with hp | hp
    · exact ⟨(h2 p hp).1, by have := (h2 p hp).2; omega⟩
    · simp at hp; subst hp; exact ⟨rfl, by omega⟩
  · rw [List.pairwise_append]
    refine ⟨h3, by simp, fun a ha b hb => ?_⟩
    simp at hb; subst hb
    exact (h2 a ha).2
  · intro i hi hno
    have hik : i ≠ k := fun e => hno (k, k) (by simp) e.symm
    have hno' : ∀ p ∈ s.op, p.2 ≠ i := fun p hp => hno p (List.mem_append_left _ hp)
    have gs : ∀ j, j ≠ k → (s.ms.set k (-1)).getD j 0 = s.ms.getD j 0 := fun j hj => by rw [getD_set, if_neg (fun h => hj h.1.symm)]
    rcases h4 i (by omega) hno' with g | ⟨g, j, gj, g1, g2, g3⟩ | ⟨g, j, gj, g1, g2, g3⟩
    · exact .inl g
    · exact .inr (.inl ⟨g, j, by dsimp only; rw [gs i hik]; exact gj, g1, by omega, g3⟩)
    · refine .inr (.inr ⟨g, j, by dsimp only; rw [gs i hik]; exact gj, by omega, by dsimp only; rw [gs j (by omega)]; exact g2, fun p hp => ?_⟩)
      rcases List.mem_append.1 hp with hp | hp
      · exact g3 p hp
      · simp at hp; subst hp; dsimp only; omega

/-- What an opening one is closed by. -/
def shut (o : Int) : Int := if o = 18 then 20 else if o = 21 then 22 else 14

theorem NInv.outof {os : List Int} {n k la : Nat} {s : MSt} {t : List (Nat × Nat)} (h : NInv os n k s) (hk : k < n) (hs : s.op = t ++ [(la, la)]) (hin : isIn (os.getD la 0) = true) (ho : os.getD k 0 = shut (os.getD la 0)) :
    mstep os k s = some ⟨mjoin (s.ms.set k (-1)) (os.getD k 0) la k, t⟩ ∧ NInv os n (k + 1) ⟨mjoin (s.ms.set k (-1)) (os.getD k 0) la k, t⟩ := by
  obtain ⟨h1, h2, h3, h4⟩ := h
  have hla : la < k := (h2 (la, la) (by rw [hs]; simp)).2
  have hin' := of_decide_eq_true hin
  have hop : (os.getD la 0 = 18 ∧ os.getD k 0 = 20) ∨ (os.getD la 0 = 21 ∧ os.getD k 0 = 22) ∨ (os.getD la 0 = 13 ∧ os.getD k 0 = 14) := by
    rcases hin' with e | e | e <;> rw [e] at ho <;> simp [shut] at ho
    · exact .inl ⟨e, by simpa using ho⟩
    · exact .inr (.inl ⟨e, by simpa using ho⟩)
    · exact .inr (.inr ⟨e, by simpa using ho⟩)
  have hout : isOut (os.getD k 0) = true ∧ isIn (os.getD k 0) = false ∧ fitsB (os.getD k 0) (os.getD la 0) = true ∧ os.getD k 0 ≠ 19 := by
    rcases hop with ⟨e1, e2⟩ | ⟨e1, e2⟩ | ⟨e1, e2⟩ <;> rw [e1, e2] <;> exact ⟨by decide, by decide, by decide, by decide⟩
  obtain ⟨o1, o2, o3, o4⟩ := hout
  have hst : mstep os k s = some ⟨mjoin (s.ms.set k (-1)) (os.getD k 0) la k, t⟩ := by
    unfold mstep
    rw [if_neg (by rw [o2]; simp), if_pos o1, hs]
    simp only [List.getLast?_append, List.getLast?_singleton, Option.some_or]
    rw [if_pos o3, if_neg o4]
    simp
  have h3' : t.Pairwise (fun p q => p.2 < q.2) ∧ ∀ p ∈ t, p.2 < la := by
    rw [hs, List.pairwise_append] at h3
    exact ⟨h3.1, fun p hp => h3.2.2 p hp (la, la) (by simp)⟩
  refine ⟨hst, ?_, ?_, h3'.1, ?_⟩
  · show (mjoin _ _ _ _).length = n
    unfold mjoin
    split <;> simpa using h1
  · intro p hp
    have := h2 p (by rw [hs]; simp [hp])
    exact ⟨this.1, by omega⟩
  · have gj : ∀ j, (mjoin (s.ms.set k (-1)) (os.getD k 0) la k).getD j 0 = if la = j then (k : Int) else if k = j then (if os.getD k 0 = 22 ∨ os.getD k 0 = 14 then (la : Int) else -1) else s.ms.getD j 0 := by
      intro j
      unfold mjoin
      rw [getD_set]
      by_cases e1 : la = j
      · rw [if_pos ⟨e1, by split <;> simp <;> omega⟩, if_pos e1]
      · rw [if_neg (fun h => e1 h.1), if_neg e1]
        by_cases e2 : os.getD k 0 = 22 ∨ os.getD k 0 = 14
        · rw [if_pos e2, getD_set, getD_set]
          by_cases e3 : k = j
          · rw [if_pos ⟨e3, by simp; omega⟩, if_pos e3, if_pos e2]
          · rw [if_neg (fun h => e3 h.1), if_neg (fun h => e3 h.1), if_neg e3]
        · rw [if_neg e2, getD_set]
          by_cases e3 : k = j
          · rw [if_pos ⟨e3, by omega⟩, if_pos e3, if_neg e2]
          · rw [if_neg (fun h => e3 h.1), if_neg e3]
    intro i hi hno
    dsimp only at hno ⊢
    unfold Good
    rcases Nat.lt_or_ge i k with hik | hik
    · by_cases hil : la = i
      · subst hil
        rcases hop with ⟨e1, e2⟩ | ⟨e1, e2⟩ | ⟨e1, e2⟩
        · exact .inr (.inl ⟨e1, k, by rw [gj, if_pos rfl], hla, by omega, e2⟩)
        · exact .inr (.inr ⟨by omega, k, by rw [gj, if_pos rfl], by omega, by rw [gj, if_neg (by omega), if_pos rfl, if_pos (.inl e2)], fun p hp => by have := h3'.2 p hp; omega⟩)
        · exact .inr (.inr ⟨by omega, k, by rw [gj, if_pos rfl], by omega, by rw [gj, if_neg (by omega), if_pos rfl, if_pos (.inr e2)], fun p hp => by have := h3'.2 p hp; omega⟩)
      · have hno' : ∀ p ∈ s.op, p.2 ≠ i := by
          intro p hp
          rw [hs] at hp
          rcases List.mem_append.1 hp with hp | hp
          · exact hno p hp
          · simp at hp; subst hp; exact hil
        rcases h4 i hik hno' with g | ⟨g, j, gj', g1, g2, g3⟩ | ⟨g, j, gj', g1, g2, g3⟩
        · exact .inl g
        · exact .inr (.inl ⟨g, j, by rw [gj, if_neg hil, if_neg (by omega)]; exact gj', g1, by omega, g3⟩)
        · have hjl : la ≠ j := fun e => g3 (la, la) (by rw [hs]; simp) e
          exact .inr (.inr ⟨g, j, by rw [gj, if_neg hil, if_neg (by omega)]; exact gj', by omega, by rw [gj, if_neg hjl, if_neg (by omega)]; exact g2, fun p hp => g3 p (by rw [hs]; simp [hp])⟩)
    · have : i = k := by omega
      subst this
      rcases hop with ⟨e1, e2⟩ | ⟨e1, e2⟩ | ⟨e1, e2⟩
      · exact .inl e2
      · exact .inr (.inr ⟨by omega, la, by rw [gj, if_neg (by omega), if_pos rfl, if_pos (.inl e2)], by omega, by rw [gj, if_pos rfl], fun p hp => by have := h3'.2 p hp; omega⟩)
      · exact .inr (.inr ⟨by omega, la, by rw [gj, if_neg (by omega), if_pos rfl, if_pos (.inr e2)], by omega, by rw [gj, if_pos rfl], fun p hp => by have := h3'.2 p hp; omega⟩)

/-- What the law builds: what goes in, and what it is closed by; where the open ones stand. -/
inductive Nest : List Int → List Nat → Prop
  | nil : Nest [] []
  | push {os : List Int} {st : List Nat} (o : Int) (h : Nest os st) (ho : isIn o = true) : Nest (os ++ [o]) (st ++ [os.length])
  | pop {os : List Int} {st : List Nat} {la : Nat} (h : Nest os (st ++ [la])) : Nest (os ++ [shut (os.getD la 0)]) st

theorem getD_left (a b : List Int) (i : Nat) (h : i < a.length) : (a ++ b).getD i 0 = a.getD i 0 := by
  simp only [List.getD_eq_getElem?_getD]
  rw [List.getElem?_append_left h]
theorem getD_mid (a b : List Int) (o : Int) : (a ++ o :: b).getD a.length 0 = o := by
  simp [List.getD_eq_getElem?_getD]

theorem Nest.open_ {os : List Int} {st : List Nat} (h : Nest os st) : ∀ q ∈ st, q < os.length ∧ isIn (os.getD q 0) = true := by
  induction h with
  | nil => simp
  | @push os st o h ho ih =>
    intro q hq
    rcases List.mem_append.1 hq with hq | hq
    · have := ih q hq
      exact ⟨by simp; omega, by rw [getD_left _ _ _ this.1]; exact this.2⟩
    · simp at hq
      subst hq
      exact ⟨by simp, by rw [getD_mid]; exact ho⟩
  | @pop os st la h ih =>
    intro q hq
    have := ih q (by simp [hq])
    exact ⟨by simp; omega, by rw [getD_left _ _ _ this.1]; exact this.2⟩
theorem shut_six (o : Int) (h : isIn o = true) : six (shut o) ∧ dep (shut o) = -1 := by
  rcases of_decide_eq_true h with e | e | e <;> subst e <;> exact ⟨by unfold six shut; simp, by decide⟩
theorem Nest.six {os : List Int} {st : List Nat} (h : Nest os st) : (∀ o ∈ os, Go.Proofs.Ythhgeanmlpmokaa.six o) ∧ (os.map dep).sum = st.length := by
  induction h with
  | nil => simp
  | @push os st o h ho ih =>
    refine ⟨fun x hx => ?_, ?_⟩
    · rcases List.mem_append.1 hx with hx | hx
      · exact ih.1 x hx
      · simp at hx
        subst hx
        rcases of_decide_eq_true ho with e | e | e <;> subst e <;> unfold Go.Proofs.Ythhgeanmlpmokaa.six <;> simp
    · rw [List.map_append, List.sum_append, ih.2]
      have : dep o = 1 := by unfold dep; rw [if_pos ho]
      simp [this]
  | @pop os st la h ih =>
    have hs := shut_six _ (h.open_ la (by simp)).2
    refine ⟨fun x hx => ?_, ?_⟩
    · rcases List.mem_append.1 hx with hx | hx
      · exact ih.1 x hx
      · simp only [List.mem_singleton] at hx
        rw [hx]; exact hs.1
    · rw [List.map_append, List.sum_append, ih.2]
      simp only [List.map_cons, List.map_nil, List.sum_cons, List.sum_nil, hs.2, List.length_append, List.length_cons, List.length_nil]
      omega

theorem Nest.run {os : List Int} {st : List Nat} (h : Nest os st) : ∀ rest : List Int, ∃ s, NInv (os ++ rest) (os ++ rest).length os.length s ∧ s.op = st.map (fun q => (q, q)) ∧ mgo (os ++ rest) rest.length os.length s = matesOf (os ++ rest) := by
  induction h with
  | nil =>
    intro rest
    refine ⟨⟨List.replicate rest.length 0, []⟩, ⟨by simp, by simp, by simp, fun i hi => by simp at hi⟩, rfl, rfl⟩
  | @push os st o h ho ih =>
    intro rest
    obtain ⟨s, h1, h2, h3⟩ := ih (o :: rest)
    have e : os ++ [o] ++ rest = os ++ o :: rest := by simp
    have hg := getD_mid os rest o
    rw [e]
    obtain ⟨hs, hi⟩ := h1.into (by simp) (by rw [hg]; exact ho)
    refine ⟨_, by simpa using hi, by rw [h2]; simp, ?_⟩
    rw [← h3]
    rw [show (o :: rest).length = rest.length + 1 from rfl]
    conv => rhs; unfold mgo
    rw [hs]
    simp
  | @pop os st la h ih =>
    intro rest
    obtain ⟨s, h1, h2, h3⟩ := ih (shut (os.getD la 0) :: rest)
    have e : os ++ [shut (os.getD la 0)] ++ rest = os ++ shut (os.getD la 0) :: rest := by simp
    have hla := h.open_ la (by simp)
    have hg := getD_mid os rest (shut (os.getD la 0))
    have hl := getD_left os (shut (os.getD la 0) :: rest) la hla.1
    rw [e]
    obtain ⟨hs, hi⟩ := h1.outof (la := la) (t := st.map (fun q => (q, q))) (by simp) (by rw [h2]; simp) (by rw [hl]; exact hla.2) (by rw [hg, hl])
    refine ⟨_, by simpa using hi, rfl, ?_⟩
    rw [← h3]
    rw [show (shut (os.getD la 0) :: rest).length = rest.length + 1 from rfl]
    conv => rhs; unfold mgo
    rw [hs]
    simp

theorem nest_mates {os : List Int} (h : Nest os []) : ∃ ms : List Int, matesOf os = (ms, -1) ∧ ms.length = os.length ∧
    ∀ i, i < os.length → os.getD i 0 = 20 ∨ (os.getD i 0 = 18 ∧ ∃ j : Nat, ms.getD i 0 = (j : Int) ∧ i < j ∧ j < os.length ∧ os.getD j 0 = 20) ∨ (os.getD i 0 ≠ 18 ∧ ∃ j : Nat, ms.getD i 0 = (j : Int) ∧ j < os.length ∧ ms.getD j 0 = (i : Int)) := by
  obtain ⟨s, h1, h2, h3⟩ := h.run []
  simp only [List.append_nil, List.length_nil, List.map_nil] at h1 h2 h3
  refine ⟨s.ms, ?_, h1.len, fun i hi => ?_⟩
  · rw [← h3]
    unfold mgo mend
    rw [h2]
    rfl
  · rcases h1.good i hi (by rw [h2]; simp) with g | g | ⟨g, j, g1, g2, g3, _⟩
    · exact .inl g
    · exact .inr (.inl g)
    · exact .inr (.inr ⟨g, j, g1, g2, g3⟩)

theorem nest_less {os : List Int} (h : Nest os []) (k : Nat) (hk : k < os.length) : ∃ r : Int, matesOf (os.take k ++ os.drop (k + 1)) = ([], r) ∧ 0 ≤ r := by
  obtain ⟨h6, hd⟩ := h.six
  have e : os = os.take k ++ os[k] :: os.drop (k + 1) := by
    rw [← List.drop_eq_getElem_cons hk, List.take_append_drop]
  refine matesOf_odd _ (fun i hi => ?_) ?_
  · have hm : (os.take k ++ os.drop (k + 1)).getD i 0 ∈ os.take k ++ os.drop (k + 1) := by
      rw [List.getD_eq_getElem?_getD, List.getElem?_eq_getElem hi]
      exact List.getElem_mem hi
    refine h6 _ ?_
    rcases List.mem_append.1 hm with hm | hm
    · exact List.mem_of_mem_take hm
    · exact List.mem_of_mem_drop hm
  · unfold deep
    rw [List.take_length]
    rw [e] at hd
    rw [List.map_append, List.map_cons, List.sum_append, List.sum_cons] at hd
    rw [List.map_append, List.sum_append]
    have h1 : dep os[k] = 1 ∨ dep os[k] = -1 := by
      rcases h6 os[k] (List.getElem_mem hk) with e | e | e | e | e | e <;> rw [e] <;> decide
    simp only [List.length_nil] at hd
    rcases h1 with h1 | h1 <;> rw [h1] at hd <;> omega

end Go.Proofs.Ythhgeanmlpmokaa
