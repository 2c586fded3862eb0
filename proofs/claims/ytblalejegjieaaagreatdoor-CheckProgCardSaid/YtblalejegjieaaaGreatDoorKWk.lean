/-
  The document's walk over a program in plain words: what it tells is what check's own tells. What stands around an instruction, by the places of the OEnters that are open. The document's walk, step by step: what it holds. The document's walk tells at each place what check's own tells. The document's own MayInstr: fields, field, MayInstr. The document's walk: an OEnter. The document's walk: an instruction that is no OEnter. The document's own answer for a program, walked.
-/
import Derived.Test.YtblalejegjieaaaGreatDoorKConf
import Derived.Test.YtblalejegjieaaaGreatDoorMOld
import Derived.Test.YtblalejegjieaaaGreatDoorMay
import Derived.Test.YtblalejegjieaaaGreatDoorLater
import Derived.Test.YtblalejegjieaaaGreatDoorKRef1
import Derived.Test.YtblalejegjieaaaGreatDoorKBuilt
import Derived.BigQuiet
import Derived.Test.YtblalejegjieaaaGreatDoorKBuild
import Derived.Test.YtblalejegjieaaaGreatDoorRMates
namespace Go.Proofs.YtblalejegjieaaaGreatDoor
open Go.RowKit
set_option linter.unusedVariables false

def wrun (os : List Int) : Nat → Nat → MSt → Option MSt
  | 0, _, s => some s
  | f + 1, k, s => (mstep os k s).bind fun s' => wrun os f (k + 1) s'
theorem wrun_of {os : List Int} : ∀ (f k : Nat) (s : MSt), (mgo os f k s).2 < 0 → ∃ s', wrun os f k s = some s' ∧ s'.op = [] ∧ (mgo os f k s).1 = s'.ms := by
  intro f
  induction f with
  | zero =>
    intro k s h
    refine ⟨s, rfl, ?_⟩
    simp only [mgo, mend] at h ⊢
    split at h
    · rename_i hl
      exact ⟨by simpa using hl, rfl⟩
    · omega
  | succ f ih =>
    intro k s h
    unfold mgo at h ⊢
    unfold wrun
    split at h
    · omega
    · rename_i s1 hs
      rw [hs]
      exact ih _ _ h

/-- What more is so of the open blocks. -/
structure WE (os : List Int) (k : Nat) (s : MSt) : Prop where
  len : ∃ n, MInv n k s
  old : MOld os k s
  en : ∀ e ∈ s.op, (e.1 = e.2 ∧ isIn (os.getD e.1 0) = true) ∨ (os.getD e.1 0 = 18 ∧ os.getD e.2 0 = 19 ∧ e.1 < e.2)

/-- The three ways of a step. -/
inductive WS (os : List Int) (k : Nat) (s s' : MSt) : Prop
  | inn (h : isIn (os.getD k 0) = true) (h1 : s' = ⟨s.ms.set k (-1), s.op ++ [(k, k)]⟩)
  | out (t : List (Nat × Nat)) (fr la : Nat) (h : isOut (os.getD k 0) = true) (h0 : s.op = t ++ [(fr, la)]) (hf : fitsB (os.getD k 0) (os.getD la 0) = true) (h1 : s' = ⟨mjoin (s.ms.set k (-1)) (os.getD k 0) la k, if os.getD k 0 = 19 then t ++ [(fr, k)] else t⟩)
  | oth (h : isIn (os.getD k 0) = false) (h' : isOut (os.getD k 0) = false) (h1 : s' = ⟨s.ms.set k (-1), s.op⟩)
theorem WS.of {os : List Int} {k : Nat} {s s' : MSt} (hs : mstep os k s = some s') : WS os k s s' := by
  unfold mstep at hs
  split at hs
  · rename_i hin
    cases hs
    exact .inn hin rfl
  · rename_i hin
    split at hs
    · rename_i hout
      split at hs
      · cases hs
      · rename_i fr la hl
        split at hs
        · rename_i hf
          cases hs
          obtain ⟨t, ht⟩ : ∃ t, s.op = t ++ [(fr, la)] := by
            rcases nil_or_snoc s.op with e | ⟨t, x, e⟩
            · rw [e] at hl; simp at hl
            · rw [e] at hl
              simp at hl
              exact ⟨t, by rw [e, hl]⟩
          have hd : s.op.dropLast = t := by rw [ht]; simp
          refine .out t fr la hout ht hf ?_
          rw [hd]
        · cases hs
    · rename_i hout
      cases hs
      exact .oth (by simpa using hin) (by simpa using hout) rfl

theorem WE.step {os : List Int} {n k : Nat} {s s' : MSt} (h : WE os k s) (hv : MInv n k s) (hk : k < n) (hs : mstep os k s = some s') : WE os (k + 1) s' := by
  refine ⟨⟨n, hv.step hs⟩, h.old.step hv hk hs, fun e he => ?_⟩
  cases WS.of hs with
  | inn hin h1 =>
    subst h1
    rcases List.mem_append.1 he with he | he
    · exact h.en e he
    · simp at he
      subst he
      exact .inl ⟨rfl, hin⟩
  | out t fr la hout h0 hf h1 =>
    subst h1
    have ht : ∀ e ∈ t, e ∈ s.op := fun e he => by rw [h0]; exact List.mem_append_left _ he
    dsimp only at he
    split at he
    · rename_i h19
      rcases List.mem_append.1 he with he | he
      · exact h.en e (ht e he)
      · simp at he
        subst he
        refine .inr ?_
        have hm : (fr, la) ∈ s.op := by rw [h0]; simp
        rw [h19] at hf
        have hla : os.getD la 0 = 18 := by simpa [fitsB] using hf
        have hlt := hv.lt _ hm
        rcases h.en _ hm with ⟨q1, q2⟩ | ⟨q1, q2, q3⟩
        · dsimp only at q1 q2 hlt ⊢
          exact ⟨by rw [q1]; exact hla, h19, by omega⟩
        · dsimp only at q1 q2 q3 hlt ⊢
          omega
    · exact h.en e (ht e he)
  | oth hin hout h1 =>
    subst h1
    exact h.en e he

/-- Is it open? -/
def opn (s : MSt) (j : Nat) : Prop := ∃ f, (f, j) ∈ s.op

/-- What becomes of the mates. -/
theorem wrun_ms {os : List Int} {n : Nat} : ∀ (f k : Nat) (s s' : MSt), k + f = n → WE os k s → MInv n k s → wrun os f k s = some s' → s'.op = [] →
    (∀ j, j < k → opn s j → (k : Int) ≤ s'.ms.getD j 0) ∧ (∀ j, j < k → ¬ opn s j → s'.ms.getD j 0 = s.ms.getD j 0) := by
  intro f
  induction f with
  | zero =>
    intro k s s' _ _ _ h h0
    simp only [wrun, Option.some.injEq] at h
    subst h
    refine ⟨fun j _ ⟨f, hf⟩ => ?_, fun j _ _ => rfl⟩
    rw [h0] at hf
    cases hf
  | succ f ih =>
    intro k s s' hk he hv h h0
    unfold wrun at h
    obtain ⟨s1, hs, h2⟩ := Option.bind_eq_some_iff.1 h
    obtain ⟨i1, i2⟩ := ih (k + 1) s1 s' (by omega) (he.step hv (by omega) hs) (hv.step hs) h2 h0
    have hl := hv.len
    have gk : ∀ j, j < k → (s.ms.set k (-1)).getD j 0 = s.ms.getD j 0 := fun j hj => by
      rw [getD_set, if_neg (fun e => by omega)]
    cases WS.of hs with
    | inn hin h1 =>
      subst h1
      refine ⟨fun j hj ⟨f, hf⟩ => ?_, fun j hj hn => ?_⟩
      · have := i1 j (by omega) ⟨f, List.mem_append_left _ hf⟩
        omega
      · rw [i2 j (by omega) (fun ⟨f, hf⟩ => ?_)]
        · exact gk j hj
        · rcases List.mem_append.1 hf with hf | hf
          · exact hn ⟨f, hf⟩
          · simp at hf; omega
    | oth hin hout h1 =>
      subst h1
      refine ⟨fun j hj ho => ?_, fun j hj hn => ?_⟩
      · have := i1 j (by omega) ho
        omega
      · rw [i2 j (by omega) hn]
        exact gk j hj
    | out t fr la hout hop hf h1 =>
      subst h1
      have hm : (fr, la) ∈ s.op := by rw [hop]; simp
      have hlt := hv.lt _ hm
      dsimp only at hlt
      have hr := he.old.rise
      rw [hop, List.pairwise_append] at hr
      obtain ⟨_, _, hr⟩ := hr
      have hfl : fr ≤ la := by rcases he.en _ hm with ⟨q, _⟩ | ⟨_, _, q⟩ <;> dsimp only at q <;> omega
      have hne : ∀ e ∈ t, e.2 < la := fun e he' => by have := hr e he' (fr, la) (by simp); dsimp only at this; omega
      have hj : ∀ j, j < k → (mjoin (s.ms.set k (-1)) (os.getD k 0) la k).getD j 0 = if la = j then (k : Int) else s.ms.getD j 0 := fun j hj => by
        unfold mjoin
        rw [getD_set]
        by_cases e1 : la = j
        · rw [if_pos ⟨e1, by split <;> simp <;> omega⟩, if_pos e1]
        · rw [if_neg (fun h => e1 h.1), if_neg e1]
          split
          · rw [getD_set, if_neg (fun e => by omega)]
            exact gk j hj
          · exact gk j hj
      have hsub : ∀ j, opn ⟨mjoin (s.ms.set k (-1)) (os.getD k 0) la k, if os.getD k 0 = 19 then t ++ [(fr, k)] else t⟩ j → j ≠ k → ∃ f, (f, j) ∈ t := by
        rintro j ⟨f, hf⟩ hjk
        dsimp only at hf
        split at hf
        · rcases List.mem_append.1 hf with hf | hf
          · exact ⟨f, hf⟩
          · simp at hf; omega
        · exact ⟨f, hf⟩
      refine ⟨fun j hjk ho => ?_, fun j hjk hn => ?_⟩
      · by_cases e1 : la = j
        · rw [i2 j (by omega) (fun h => ?_), hj j hjk, if_pos e1]
          · exact Int.le_refl _
          · obtain ⟨f, hf⟩ := hsub j h (by omega)
            have := hne _ hf
            dsimp only at this
            omega
        · obtain ⟨f, hf⟩ := ho
          rw [hop] at hf
          rcases List.mem_append.1 hf with hf | hf
          · have := i1 j (by omega) ⟨f, by dsimp only; split; exact List.mem_append_left _ hf; exact hf⟩
            omega
          · simp at hf; omega
      · have e1 : ¬ la = j := fun e => hn ⟨fr, by rw [← e]; exact hm⟩
        rw [i2 j (by omega) (fun h => ?_), hj j hjk, if_neg e1]
        obtain ⟨f, hf⟩ := hsub j h (by omega)
        exact hn ⟨f, by rw [hop]; exact List.mem_append_left _ hf⟩

end Go.Proofs.YtblalejegjieaaaGreatDoor

namespace Go.Proofs.YtblalejegjieaaaGreatDoor
open Go.RowKit
set_option linter.unusedVariables false

theorem rise_filter_lt {O : List Nat} (h : O.Pairwise (· < ·)) (m : Nat) : O.filter (fun j => decide (j < m + 1)) = if m ∈ O then O.filter (fun j => decide (j < m)) ++ [m] else O.filter (fun j => decide (j < m)) := by
  induction O with
  | nil => simp
  | cons a O ih =>
    rw [List.pairwise_cons] at h
    have ih := ih h.2
    by_cases e : a = m
    · subst e
      rw [if_pos (by simp)]
      have h1 : O.filter (fun j => decide (j < a + 1)) = [] := by
        rw [List.filter_eq_nil_iff]
        intro x hx
        have := h.1 x hx
        simp; omega
      have h2 : O.filter (fun j => decide (j < a)) = [] := by
        rw [List.filter_eq_nil_iff]
        intro x hx
        have := h.1 x hx
        simp; omega
      rw [List.filter_cons, List.filter_cons, h1, h2, if_pos (by simp), if_neg (by simp)]
      rfl
    · have hm : (m ∈ a :: O) ↔ m ∈ O := by simp; intro h; exact absurd h.symm e
      have ed : decide (a < m + 1) = decide (a < m) := decide_eq_decide.2 (by omega)
      rw [List.filter_cons, List.filter_cons, ih, ed]
      by_cases h4 : m ∈ O
      · rw [if_pos h4, if_pos (hm.2 h4)]
        split <;> rfl
      · rw [if_neg h4, if_neg (fun h => h4 (hm.1 h))]

/-- The greatest lock from h on, ahead of m. -/
structure Top (p : List Ins) (h m : Nat) (v : Int) : Prop where
  up : ∀ j, h ≤ j → j < m → (p.getD j ins0).op = 13 → (p.getD j ins0).a ≤ v
  at_ : ∃ j, h ≤ j ∧ j < m ∧ (p.getD j ins0).op = 13 ∧ (p.getD j ins0).a = v
theorem Top.eq {p : List Ins} {h m : Nat} {v v' : Int} (a : Top p h m v) (b : Top p h m v') : v = v' := by
  obtain ⟨j, h1, h2, h3, h4⟩ := a.at_
  obtain ⟨i, g1, g2, g3, g4⟩ := b.at_
  have := b.up j h1 h2 h3
  have := a.up i g1 g2 g3
  omega
theorem Top.skip {p : List Ins} {h m : Nat} {v : Int} (a : Top p h m v) (hn : (p.getD m ins0).op ≠ 13) : Top p h (m + 1) v := by
  refine ⟨fun j h1 h2 h3 => ?_, ?_⟩
  · rcases Nat.lt_or_ge j m with h | h
    · exact a.up j h1 h h3
    · obtain rfl : j = m := by omega
      exact absurd h3 hn
  · obtain ⟨j, h1, h2, h3⟩ := a.at_
    exact ⟨j, h1, by omega, h3⟩
theorem Top.add {p : List Ins} {h m : Nat} {v : Int} (a : Top p h m v) (hm : h ≤ m) (hn : (p.getD m ins0).op = 13) : Top p h (m + 1) (max v (p.getD m ins0).a) := by
  refine ⟨fun j h1 h2 h3 => ?_, ?_⟩
  · rcases Nat.lt_or_ge j m with h | h
    · have := a.up j h1 h h3; omega
    · obtain rfl : j = m := by omega
      omega
  · obtain ⟨j, h1, h2, h3, h4⟩ := a.at_
    by_cases e : v ≤ (p.getD m ins0).a
    · exact ⟨m, hm, by omega, hn, by omega⟩
    · exact ⟨j, h1, by omega, h3, by omega⟩
theorem Top.new {p : List Ins} {h : Nat} (hn : (p.getD h ins0).op = 13) : Top p h (h + 1) (p.getD h ins0).a :=
  ⟨fun j h1 h2 h3 => by obtain rfl : j = h := by omega
                        exact Int.le_refl _, ⟨h, Nat.le_refl _, by omega, hn, rfl⟩⟩

/-- What is told of the instructions ahead of m. -/
structure ArI (p : List Ins) (F : Nat → Bool) (O : List Nat) (m : Nat) (d : Std) : Prop where
  op : d.op = (O.filter (fun j => decide (j < m))).map (fun j => p.getD j ins0)
  nil : O.filter (fun j => decide (j < m)) = [] → d.hi = 0 ∧ d.lp = false
  hi : ∀ h r, O.filter (fun j => decide (j < m)) = h :: r → Top p h m d.hi
  lp : ∀ h r, O.filter (fun j => decide (j < m)) = h :: r → (d.lp = true ↔ ∃ j, h < j ∧ j < m ∧ (p.getD j ins0).op = 21 ∧ F j = true)

theorem ArI.step {p : List Ins} {F : Nat → Bool} {O : List Nat} {m q : Nat} {d : Std} (h : ArI p F O m d) (hO : O.Pairwise (· < ·)) (hm : m < q) (hmem : ∀ j, j < q → (j ∈ O ↔ (p.getD j ins0).op = 13 ∧ F j = true)) (ha : (p.getD m ins0).op = 13 → 0 ≤ (p.getD m ins0).a) :
    ArI p F O (m + 1) (arStep (F m) (p.getD m ins0) d) := by
  have hf := rise_filter_lt hO m
  have hmm := hmem m hm
  obtain ⟨h1, h2, h3, h4⟩ := h
  generalize hL : O.filter (fun j => decide (j < m)) = L at *
  have hLm : ∀ j ∈ L, j < m := fun j hj => by
    rw [← hL] at hj
    simpa using (List.mem_filter.1 hj).2
  by_cases hin : m ∈ O
  · rw [if_pos hin] at hf
    obtain ⟨e13, eF⟩ := hmm.1 hin
    have hl : arList (F m) (p.getD m ins0) d = d.op ++ [p.getD m ins0] := by
      unfold arList
      rw [eF, e13]
      rfl
    have hne : ¬ (arList (F m) (p.getD m ins0) d).length = 0 := by rw [hl]; simp
    rw [arStep_13 hne e13, hl]
    refine ⟨by rw [hf, h1]; simp, fun h => by rw [hf] at h; simp at h, fun h r hh => ?_, fun h r hh => ?_⟩
    · rw [hf] at hh
      cases hLc : L with
      | nil =>
        rw [hLc] at hh
        simp at hh
        obtain ⟨rfl, rfl⟩ := hh
        have := (h2 hLc).1
        have ha := ha e13
        dsimp only
        rw [this, show max 0 (p.getD m ins0).a = (p.getD m ins0).a by omega]
        exact Top.new e13
      | cons x L' =>
        rw [hLc] at hh
        simp at hh
        obtain ⟨rfl, _⟩ := hh
        exact (h3 x L' hLc).add (Nat.le_of_lt (hLm x (by rw [hLc]; simp))) e13
    · rw [hf] at hh
      cases hLc : L with
      | nil =>
        rw [hLc] at hh
        simp at hh
        obtain ⟨rfl, rfl⟩ := hh
        dsimp only
        rw [(h2 hLc).2]
        constructor
        · intro h; cases h
        · rintro ⟨j, q1, q2, _⟩; omega
      | cons x L' =>
        rw [hLc] at hh
        simp at hh
        obtain ⟨rfl, _⟩ := hh
        dsimp only
        rw [h4 x L' hLc]
        constructor
        · rintro ⟨j, q1, q2, q3⟩; exact ⟨j, q1, by omega, q3⟩
        · rintro ⟨j, q1, q2, q3, q4⟩
          refine ⟨j, q1, ?_, q3, q4⟩
          rcases Nat.lt_or_ge j m with h | h
          · exact h
          · obtain rfl : j = m := by omega
            omega
  · rw [if_neg hin] at hf
    have hl : arList (F m) (p.getD m ins0) d = d.op := by
      unfold arList
      rw [if_neg]
      intro e
      rw [Bool.and_eq_true] at e
      exact hin (hmm.2 ⟨by simpa using e.2, e.1⟩)
    by_cases h0 : L = []
    · have hz : (arList (F m) (p.getD m ins0) d).length = 0 := by rw [hl, h1, h0]; rfl
      rw [arStep_0 hz, hl]
      refine ⟨by rw [hf]; exact h1, fun _ => h2 h0, fun h r hh => ?_, fun h r hh => ?_⟩ <;> rw [hf, h0] at hh <;> cases hh
    · have hne : ¬ (arList (F m) (p.getD m ins0) d).length = 0 := by
        rw [hl, h1]
        simpa using h0
      by_cases e13 : (p.getD m ins0).op = 13
      · rw [arStep_13 hne e13, hl]
        refine ⟨by rw [hf]; exact h1, fun h => absurd (hf.symm.trans h) h0, fun h r hh => ?_, fun h r hh => ?_⟩
        · rw [hf] at hh
          exact (h3 h r hh).add (Nat.le_of_lt (hLm h (by rw [hh]; simp))) e13
        · rw [hf] at hh
          dsimp only
          rw [h4 h r hh]
          constructor
          · rintro ⟨j, q1, q2, q3⟩; exact ⟨j, q1, by omega, q3⟩
          · rintro ⟨j, q1, q2, q3, q4⟩
            refine ⟨j, q1, ?_, q3, q4⟩
            rcases Nat.lt_or_ge j m with h | h
            · exact h
            · obtain rfl : j = m := by omega
              omega
      · by_cases e21 : (p.getD m ins0).op = 21
        · rw [arStep_21 hne e21, hl]
          refine ⟨by rw [hf]; exact h1, fun h => absurd (hf.symm.trans h) h0, fun h r hh => ?_, fun h r hh => ?_⟩
          · rw [hf] at hh
            exact (h3 h r hh).skip e13
          · rw [hf] at hh
            dsimp only
            rw [Bool.or_eq_true, h4 h r hh]
            constructor
            · rintro (⟨j, q1, q2, q3⟩ | hF)
              · exact ⟨j, q1, by omega, q3⟩
              · exact ⟨m, hLm h (by rw [hh]; simp), by omega, e21, hF⟩
            · rintro ⟨j, q1, q2, q3, q4⟩
              rcases Nat.lt_or_ge j m with h | h
              · exact .inl ⟨j, q1, h, q3, q4⟩
              · obtain rfl : j = m := by omega
                exact .inr q4
        · rw [arStep_x hne e13 e21, hl]
          refine ⟨by rw [hf]; exact h1, fun h => absurd (hf.symm.trans h) h0, fun h r hh => ?_, fun h r hh => ?_⟩
          · rw [hf] at hh
            exact (h3 h r hh).skip e13
          · rw [hf] at hh
            dsimp only
            rw [h4 h r hh]
            constructor
            · rintro ⟨j, q1, q2, q3⟩; exact ⟨j, q1, by omega, q3⟩
            · rintro ⟨j, q1, q2, q3, q4⟩
              refine ⟨j, q1, ?_, q3, q4⟩
              rcases Nat.lt_or_ge j m with h | h
              · exact h
              · obtain rfl : j = m := by omega
                omega

theorem arGo_snoc (ms : List Int) (q : Nat) : ∀ (l : List Ins) (x : Ins) (k : Nat) (s : Std), arGo ms q (l ++ [x]) k s = arStep (decide ((q : Int) < ms.getD (k + l.length) 0)) x (arGo ms q l k s) := by
  intro l
  induction l with
  | nil => intro x k s; rfl
  | cons y l ih =>
    intro x k s
    rw [List.cons_append, arGo_cons, arGo_cons, ih]
    congr 4
    rw [List.length_cons]
    omega

/-- What stands around an instruction. -/
theorem around_char {p : List Ins} {ms : List Int} {q : Nat} {O : List Nat} (hq : q ≤ p.length) (hO : O.Pairwise (· < ·)) (hmem : ∀ j, j < q → (j ∈ O ↔ (p.getD j ins0).op = 13 ∧ decide ((q : Int) < ms.getD j 0) = true)) (ha : ∀ j, j < q → (p.getD j ins0).op = 13 → 0 ≤ (p.getD j ins0).a) :
    ∀ m, m ≤ q → ArI p (fun j => decide ((q : Int) < ms.getD j 0)) O m (arGo ms q (p.take m) 0 ⟨[], 0, false⟩) := by
  intro m
  induction m with
  | zero => 
    intro _
    have e : O.filter (fun j => decide (j < 0)) = [] := by simp
    exact ⟨by rw [e]; rfl, fun _ => ⟨rfl, rfl⟩, fun h r hh => (by rw [e] at hh; cases hh), fun h r hh => (by rw [e] at hh; cases hh)⟩
  | succ m ih =>
    intro hm
    have ih := ih (by omega)
    have ht : p.take (m + 1) = p.take m ++ [p.getD m ins0] := by
      rw [List.take_add_one, List.getD_eq_getElem?_getD, List.getElem?_eq_getElem (by omega : m < p.length)]
      rfl
    rw [ht, arGo_snoc, List.length_take, Nat.min_eq_left (by omega), Nat.zero_add]
    exact ih.step hO (by omega) hmem (ha m (by omega))

end Go.Proofs.YtblalejegjieaaaGreatDoor

namespace Go.Proofs.YtblalejegjieaaaGreatDoor
open Go.RowKit
set_option linter.unusedVariables false

/-- A section on its way: which OEnters are open, the last one's lock, how many loops are open in it. -/
structure Wk where
  op : List Nat
  last : Int
  lp : Int
def enterW (c : Cfg) (s : CV) (x : Ins) (v : Wk) : Nat :=
  if (s.nl : Int) ≤ x.a then 6
  else if x.b = 1 ∧ (c.locks.getD x.a.toNat lk0).kind ≠ 3 then 7
  else if 3 ≤ v.op.length then 5
  else if 0 < v.op.length ∧ (0 < v.lp ∨ x.a ≤ v.last) then 8
  else 0
def hitB (c : Cfg) (s : CV) (p : List Ins) (x : Ins) (k : Nat) : Bool := decide (0 ≤ x.a ∧ x.a < (s.nc : Int) ∧ (p.getD k ins0).a = c.conds.getD x.a.toNat 0)
def mineW (c : Cfg) (s : CV) (p : List Ins) (x : Ins) : List Nat → Int → Int
  | [], m => m
  | k :: r, m => mineW c s p x r (if hitB c s p x k = true then (p.getD k ins0).b else m)
def writesW (p : List Ins) : List Nat → Bool → Bool
  | [], b => b
  | k :: r, b => writesW p r (b || ((p.getD k ins0).b == 0))
def restW (c : Cfg) (s : CV) (p : List Ins) (x : Ins) (v : Wk) : Nat :=
  if x.op = 9 then (if 0 < v.op.length ∧ writesW p v.op false = false then 7 else 0)
  else if x.op = 10 ∨ x.op = 11 then (if writesW p v.op false = false then 7 else 0)
  else if x.op = 15 ∨ x.op = 16 ∨ x.op = 17 then
    (if (s.nc : Int) ≤ x.a then 9 else if mineW c s p x v.op (-1) < 0 ∨ (x.op = 15 ∧ v.op.length ≠ 1) then 6 else if mineW c s p x v.op (-1) = 1 then 7 else 0)
  else 0
def wkF (c : Cfg) (s : CV) (p : List Ins) (x : Ins) (v : Wk) : Nat := if x.op = 13 then enterW c s x v else if x.op = 14 ∨ x.op = 21 ∨ x.op = 22 then 0 else restW c s p x v
def wkNext (x : Ins) (k : Nat) (v : Wk) : Wk :=
  if x.op = 13 then ⟨v.op ++ [k], x.a, if v.op.length = 0 then 0 else v.lp⟩
  else if x.op = 14 then ⟨v.op.dropLast, v.last, v.lp⟩
  else if x.op = 21 then (if 0 < v.op.length then ⟨v.op, v.last, v.lp + 1⟩ else v)
  else if x.op = 22 then (if 0 < v.op.length then ⟨v.op, v.last, v.lp - 1⟩ else v)
  else v
def wkS (p : List Ins) : Nat → Wk
  | 0 => ⟨[], 0, 0⟩
  | k + 1 => wkNext (p.getD k ins0) k (wkS p k)

theorem opsOf_get (p : List Ins) (j : Nat) : (opsOf p).getD j 0 = (p.getD j ins0).op := by
  unfold opsOf
  simp only [List.getD_eq_getElem?_getD, List.getElem?_map]
  cases p[j]? <;> rfl

/-- The open blocks whose first instruction is of a kind. -/
def kindL (os : List Int) (o : Int) (l : List (Nat × Nat)) : List (Nat × Nat) := l.filter (fun e => os.getD e.1 0 == o)
theorem kindL_snoc (os : List Int) (o : Int) (l : List (Nat × Nat)) (e : Nat × Nat) : kindL os o (l ++ [e]) = if os.getD e.1 0 = o then kindL os o l ++ [e] else kindL os o l := by
  unfold kindL
  rw [List.filter_append, List.filter_cons]
  by_cases h : os.getD e.1 0 = o
  · rw [if_pos h, if_pos (by rw [h]; simp)]
    rfl
  · rw [if_neg h, if_neg (by rw [beq_iff_eq]; exact h)]
    exact List.append_nil _
/-- How many loops stand open above place h. -/
def loopsN (os : List Int) (h : Nat) (l : List (Nat × Nat)) : Nat := ((kindL os 21 l).filter (fun e => decide (h < e.1))).length
theorem loopsN_snoc (os : List Int) (h : Nat) (l : List (Nat × Nat)) (e : Nat × Nat) : loopsN os h (l ++ [e]) = if os.getD e.1 0 = 21 ∧ h < e.1 then loopsN os h l + 1 else loopsN os h l := by
  unfold loopsN
  rw [kindL_snoc]
  by_cases h1 : os.getD e.1 0 = 21
  · rw [if_pos h1, List.filter_append, List.filter_cons]
    by_cases h2 : h < e.1
    · rw [if_pos (by simpa using h2), if_pos ⟨h1, h2⟩]; simp
    · rw [if_neg (by simpa using h2), if_neg (fun h => h2 h.2)]; simp
  · rw [if_neg h1, if_neg (fun h => h1 h.1)]
theorem loopsN_pos {os : List Int} {h : Nat} {l : List (Nat × Nat)} : 0 < loopsN os h l ↔ ∃ e ∈ l, os.getD e.1 0 = 21 ∧ h < e.1 := by
  unfold loopsN kindL
  rw [List.length_pos_iff_exists_mem]
  constructor
  · rintro ⟨e, he⟩
    rw [List.mem_filter, List.mem_filter] at he
    exact ⟨e, he.1.1, by simpa using he.1.2, by simpa using he.2⟩
  · rintro ⟨e, he, h1, h2⟩
    exact ⟨e, List.mem_filter.2 ⟨List.mem_filter.2 ⟨he, by simpa using h1⟩, by simpa using h2⟩⟩

/-- What the walk holds at place k. -/
structure WInv (p : List Ins) (k : Nat) (S : MSt) (v : Wk) : Prop where
  op : v.op = (kindL (opsOf p) 13 S.op).map (·.1)
  asc : v.op.Pairwise fun i j => (p.getD i ins0).a < (p.getD j ins0).a
  lp : ∀ h r, v.op = h :: r → v.lp = (loopsN (opsOf p) h S.op : Int)
  top : ∀ h r, v.op = h :: r → Top p h k v.last

theorem WE.fst_rise {os : List Int} {k : Nat} {S : MSt} (h : WE os k S) : S.op.Pairwise fun e f => e.1 < f.1 := by
  have hr := h.old.rise
  have hle : ∀ e ∈ S.op, e.1 ≤ e.2 := fun e he => by rcases h.en e he with ⟨q, _⟩ | ⟨_, _, q⟩ <;> omega
  have := List.Pairwise.and_mem.1 hr
  exact this.imp fun {a b} ⟨ha, hb, hab⟩ => by have := hle a ha; omega
theorem WInv.mem {p : List Ins} {k : Nat} {S : MSt} {v : Wk} (h : WInv p k S v) {j : Nat} : j ∈ v.op ↔ ∃ l, (j, l) ∈ S.op ∧ (p.getD j ins0).op = 13 := by
  rw [h.op]
  unfold kindL
  rw [List.mem_map]
  constructor
  · rintro ⟨⟨a, b⟩, he, rfl⟩
    rw [List.mem_filter] at he
    refine ⟨b, he.1, ?_⟩
    have := he.2
    rw [← opsOf_get]
    simpa using this
  · rintro ⟨l, h1, h2⟩
    exact ⟨(j, l), List.mem_filter.2 ⟨h1, by rw [beq_iff_eq]; exact (opsOf_get p j).trans h2⟩, rfl⟩
theorem WInv.rise {p : List Ins} {k : Nat} {S : MSt} {v : Wk} (h : WInv p k S v) (he : WE (opsOf p) k S) : v.op.Pairwise (· < ·) := by
  rw [h.op, List.pairwise_map]
  exact he.fst_rise.filter _
theorem WInv.lt {p : List Ins} {k n : Nat} {S : MSt} {v : Wk} (h : WInv p k S v) (hv : MInv n k S) {j : Nat} (hj : j ∈ v.op) : j < k := by
  obtain ⟨l, h1, _⟩ := h.mem.1 hj
  exact (hv.lt _ h1).1

theorem enterW_last {c : Cfg} {s : CV} {x : Ins} {v : Wk} (h : enterW c s x v = 0) (h0 : v.op ≠ []) : v.last < x.a := by
  unfold enterW at h
  have hl : 0 < v.op.length := List.length_pos_iff.2 h0
  split at h
  · cases h
  split at h
  · cases h
  split at h
  · cases h
  split at h
  · cases h
  · rename_i h1
    have : ¬ (x.a ≤ v.last) := fun h2 => h1 ⟨hl, .inr h2⟩
    omega

set_option maxHeartbeats 1000000 in
theorem WInv.step {c : Cfg} {s : CV} {p : List Ins} {k n : Nat} {S S' : MSt} {v : Wk} (h : WInv p k S v) (he : WE (opsOf p) k S) (hv : MInv n k S) (hk : k < n) (hs : mstep (opsOf p) k S = some S') (h0 : wkF c s p (p.getD k ins0) v = 0) :
    WInv p (k + 1) S' (wkNext (p.getD k ins0) k v) := by
  have hlt : ∀ j ∈ v.op, j < k := fun j hj => h.lt hv hj
  have hop := h.op
  have skip : ∀ (hn : (p.getD k ins0).op ≠ 13), ∀ g r, v.op = g :: r → Top p g (k + 1) v.last := fun hn g r hg => (h.top g r hg).skip hn
  generalize hx : p.getD k ins0 = x at *
  have hxo : (opsOf p).getD k 0 = x.op := by rw [opsOf_get, hx]
  -- where the two lists that are read stay as they were
  have same : ∀ (l : List (Nat × Nat)), kindL (opsOf p) 13 l = kindL (opsOf p) 13 S.op → (∀ g, loopsN (opsOf p) g l = loopsN (opsOf p) g S.op) → x.op ≠ 13 → ∀ ms, WInv p (k + 1) ⟨ms, l⟩ v := fun l h1 h2 hn ms =>
    ⟨by rw [hop, h1], h.asc, fun g r hg => by rw [h2]; exact h.lp g r hg, skip hn⟩
  cases WS.of hs with
  | oth hin hout h1 =>
    subst h1
    rw [hxo] at hin hout
    have q13 : x.op ≠ 13 := fun e => by rw [e] at hin; exact absurd hin (by decide)
    have q14 : x.op ≠ 14 := fun e => by rw [e] at hout; exact absurd hout (by decide)
    have q21 : x.op ≠ 21 := fun e => by rw [e] at hin; exact absurd hin (by decide)
    have q22 : x.op ≠ 22 := fun e => by rw [e] at hout; exact absurd hout (by decide)
    unfold wkNext
    rw [if_neg q13, if_neg q14, if_neg q21, if_neg q22]
    exact same S.op rfl (fun _ => rfl) q13 _
  | inn hin h1 =>
    subst h1
    rw [hxo] at hin
    have k13 := kindL_snoc (opsOf p) 13 S.op (k, k)
    have kl := fun g => loopsN_snoc (opsOf p) g S.op (k, k)
    dsimp only at k13 kl
    rw [hxo] at k13
    simp only [hxo] at kl
    by_cases q13 : x.op = 13
    · unfold wkNext
      rw [if_pos q13]
      rw [if_pos q13] at k13
      have h0' : enterW c s x v = 0 := by
        unfold wkF at h0
        rwa [if_pos q13] at h0
      refine ⟨by rw [k13, hop]; simp, ?_, fun g r hg => ?_, fun g r hg => ?_⟩
      · dsimp only
        rw [List.pairwise_append]
        refine ⟨h.asc, by simp, fun a ha b hb => ?_⟩
        simp at hb
        subst hb
        rw [hx]
        cases hvo : v.op with
        | nil => rw [hvo] at ha; cases ha
        | cons g r =>
          have hla := enterW_last h0' (by rw [hvo]; simp)
          have hr := h.rise he
          rw [hvo] at hr ha
          have hga : g ≤ a := by
            rcases List.mem_cons.1 ha with e | e
            · exact Nat.le_of_eq e.symm
            · exact Nat.le_of_lt ((List.pairwise_cons.1 hr).1 a e)
          have hao : (p.getD a ins0).op = 13 := by
            obtain ⟨_, _, q⟩ := h.mem.1 (by rw [hvo]; exact ha)
            exact q
          have := (h.top g r hvo).up a hga (hlt a (by rw [hvo]; exact ha)) hao
          omega
      · dsimp only at hg ⊢
        have hkl := kl g
        rw [if_neg (fun e => by omega)] at hkl
        rw [hkl]
        cases hvo : v.op with
        | nil =>
          rw [hvo] at hg
          simp at hg
          obtain ⟨rfl, _⟩ := hg
          rw [if_pos (show ([] : List Nat).length = 0 from rfl)]
          have : ¬ 0 < loopsN (opsOf p) k S.op := fun hp => by
            obtain ⟨e, he', _, h2⟩ := loopsN_pos.1 hp
            have := (hv.lt e he').1
            omega
          omega
        | cons g' r' =>
          rw [hvo] at hg
          simp at hg
          obtain ⟨rfl, _⟩ := hg
          rw [if_neg (by simp)]
          exact h.lp _ _ hvo
      · dsimp only at hg ⊢
        cases hvo : v.op with
        | nil =>
          rw [hvo] at hg
          simp at hg
          obtain ⟨rfl, _⟩ := hg
          have := Top.new (p := p) (h := k) (by rw [hx]; exact q13)
          rw [hx] at this
          exact this
        | cons g' r' =>
          rw [hvo] at hg
          simp at hg
          obtain ⟨rfl, _⟩ := hg
          have hla := enterW_last h0' (by rw [hvo]; simp)
          have := (h.top _ _ hvo).add (Nat.le_of_lt (hlt _ (by rw [hvo]; simp))) (by rw [hx]; exact q13)
          rw [hx, show max v.last x.a = x.a by omega] at this
          exact this
    · have q14 : x.op ≠ 14 := fun e => by rw [e] at hin; exact absurd hin (by decide)
      rw [if_neg q13] at k13
      unfold wkNext
      rw [if_neg q13, if_neg q14]
      by_cases q21 : x.op = 21
      · rw [if_pos q21]
        by_cases hl : 0 < v.op.length
        · rw [if_pos hl]
          refine ⟨by rw [k13]; exact hop, h.asc, fun g r hg => ?_, skip q13⟩
          dsimp only at hg ⊢
          have hgk := hlt g (by rw [hg]; simp)
          rw [kl, if_pos ⟨q21, hgk⟩, h.lp g r hg]
          omega
        · rw [if_neg hl]
          have hnil : v.op = [] := by
            cases hvo : v.op with
            | nil => rfl
            | cons a b => rw [hvo] at hl; simp at hl
          exact ⟨by rw [k13]; exact hop, h.asc, fun g r hg => (by rw [hnil] at hg; cases hg), fun g r hg => (by rw [hnil] at hg; cases hg)⟩
      · have q22 : x.op ≠ 22 := fun e => by rw [e] at hin; exact absurd hin (by decide)
        rw [if_neg q21, if_neg q22]
        exact same _ k13 (fun g => by rw [kl, if_neg (fun e => q21 e.1)]) q13 _
  | out t fr la hout hS hf h1 =>
    subst h1
    rw [hxo] at hout hf
    have q13 : x.op ≠ 13 := fun e => by rw [e] at hout; exact absurd hout (by decide)
    have q21 : x.op ≠ 21 := fun e => by rw [e] at hout; exact absurd hout (by decide)
    have hm : (fr, la) ∈ S.op := by rw [hS]; simp
    have hen := he.en _ hm
    dsimp only at hen
    have k13 := kindL_snoc (opsOf p) 13 t (fr, la)
    have kl := fun g => loopsN_snoc (opsOf p) g t (fr, la)
    rw [← hS] at k13 kl
    dsimp only at k13 kl
    by_cases q14 : x.op = 14
    · rw [q14] at hf
      have hla : (opsOf p).getD la 0 = 13 := by simpa [fitsB] using hf
      have hfl : fr = la := by
        rcases hen with ⟨q, _⟩ | ⟨_, q, _⟩
        · exact q
        · omega
      subst hfl
      rw [if_pos hla] at k13
      rw [hxo, if_neg (by omega)]
      unfold wkNext
      rw [if_neg q13, if_pos q14]
      have hd : v.op = (kindL (opsOf p) 13 t).map (·.1) ++ [fr] := by rw [hop, k13]; simp
      have hd' : v.op.dropLast = (kindL (opsOf p) 13 t).map (·.1) := by rw [hd]; simp
      have hcons : ∀ g r, v.op.dropLast = g :: r → v.op = g :: (r ++ [fr]) := fun g r hg => by rw [hd, ← hd', hg]; rfl
      refine ⟨hd', List.Pairwise.sublist (List.dropLast_sublist _) h.asc, fun g r hg => ?_, fun g r hg => skip q13 g _ (hcons g r hg)⟩
      dsimp only at hg ⊢
      rw [h.lp g _ (hcons g r hg), kl, if_neg (fun e => by omega)]
    · by_cases q22 : x.op = 22
      · rw [q22] at hf
        have hla : (opsOf p).getD la 0 = 21 := by simpa [fitsB] using hf
        have hfl : fr = la := by
          rcases hen with ⟨q, _⟩ | ⟨_, q, _⟩
          · exact q
          · omega
        subst hfl
        rw [if_neg (by omega)] at k13
        rw [hxo, if_neg (by omega)]
        unfold wkNext
        rw [if_neg q13, if_neg q14, if_neg q21, if_pos q22]
        by_cases hl : 0 < v.op.length
        · rw [if_pos hl]
          refine ⟨by dsimp only; rw [hop, k13], h.asc, fun g r hg => ?_, skip q13⟩
          dsimp only at hg ⊢
          have hgm : g ∈ v.op := by rw [hg]; simp
          obtain ⟨l, hgl, hg13⟩ := h.mem.1 hgm
          have hgt : (g, l) ∈ t := by
            rw [hS] at hgl
            rcases List.mem_append.1 hgl with q | q
            · exact q
            · simp at q
              rw [← opsOf_get, q.1, hla] at hg13
              omega
          have hr := he.fst_rise
          rw [hS, List.pairwise_append] at hr
          have := hr.2.2 _ hgt (fr, fr) (by simp)
          dsimp only at this
          rw [h.lp g r hg, kl, if_pos ⟨hla, this⟩]
          omega
        · rw [if_neg hl]
          have hnil : v.op = [] := by
            cases hvo : v.op with
            | nil => rfl
            | cons a b => rw [hvo] at hl; simp at hl
          exact ⟨by dsimp only; rw [hop, k13], h.asc, fun g r hg => (by rw [hnil] at hg; cases hg), fun g r hg => (by rw [hnil] at hg; cases hg)⟩
      · -- OElse, OEnd
        have hfr : (opsOf p).getD fr 0 = 18 := by
          rcases hen with ⟨q, q'⟩ | ⟨q, _, _⟩
          · rcases op_cases x.op with hc | hc | hc
            all_goals
              have hxx : x.op = 19 ∨ x.op = 20 := by
                unfold isOut at hout
                rw [decide_eq_true_eq] at hout
                omega
            all_goals
              rcases hxx with hx' | hx'
              · rw [hx'] at hf
                have : (opsOf p).getD la 0 = 18 := by simpa [fitsB] using hf
                rw [q]; exact this
              · rw [hx'] at hf
                have : (opsOf p).getD la 0 = 19 ∨ (opsOf p).getD la 0 = 18 := by simpa [fitsB] using hf
                rw [q]
                rcases this with e | e
                · rw [q, e] at q'
                  exact absurd q' (by decide)
                · exact e
          · exact q
        rw [if_neg (by omega)] at k13
        unfold wkNext
        rw [if_neg q13, if_neg q14, if_neg q21, if_neg q22]
        have k13' := kindL_snoc (opsOf p) 13 t (fr, k)
        have kl' := fun g => loopsN_snoc (opsOf p) g t (fr, k)
        dsimp only at k13' kl'
        rw [if_neg (by omega)] at k13'
        refine same _ ?_ (fun g => ?_) q13 _
        · split
          · rw [k13', k13]
          · rw [k13]
        · have q1 := kl g
          rw [if_neg (fun e => by have := e.1; omega)] at q1
          have q2 := kl' g
          rw [if_neg (fun e => by have := e.1; omega)] at q2
          split
          · rw [q2, q1]
          · rw [q1]

end Go.Proofs.YtblalejegjieaaaGreatDoor

namespace Go.Proofs.YtblalejegjieaaaGreatDoor
open Go.RowKit
set_option linter.unusedVariables false

theorem writesW_any (p : List Ins) : ∀ (l : List Nat) (b : Bool), writesW p l b = (b || l.any (fun k => (p.getD k ins0).b == 0)) := by
  intro l
  induction l with
  | nil => intro b; simp [writesW]
  | cons k l ih => intro b; rw [writesW, ih, List.any_cons, Bool.or_assoc]
theorem mineW_none {c : Cfg} {s : CV} {p : List Ins} {x : Ins} : ∀ (l : List Nat) (m : Int), (∀ k ∈ l, hitB c s p x k = false) → mineW c s p x l m = m := by
  intro l
  induction l with
  | nil => intro m _; rfl
  | cons k l ih =>
    intro m h
    rw [mineW, if_neg (by rw [h k (by simp)]; simp)]
    exact ih m fun j hj => h j (by simp [hj])

/-- The lock of the condition among the open ones: its first is its last. -/
theorem mine_find {c : Cfg} {s : CV} {p : List Ins} {x : Ins} (hx0 : 0 ≤ x.a) (hx1 : x.a < (s.nc : Int)) : ∀ (l : List Nat) (m : Int), (l.Pairwise fun i j => (p.getD i ins0).a < (p.getD j ins0).a) →
    mineW c s p x l m = match (l.map (fun j => p.getD j ins0)).find? (fun e => e.a == c.conds.getD x.a.toNat 0) with
      | none => m
      | some e => e.b := by
  intro l
  induction l with
  | nil => intro m _; rfl
  | cons k l ih =>
    intro m h
    rw [List.pairwise_cons] at h
    rw [mineW, List.map_cons, List.find?_cons]
    by_cases e : (p.getD k ins0).a = c.conds.getD x.a.toNat 0
    · rw [if_pos (by unfold hitB; rw [decide_eq_true_eq]; exact ⟨hx0, hx1, e⟩)]
      have e' : ((p.getD k ins0).a == c.conds.getD x.a.toNat 0) = true := by rw [beq_iff_eq]; exact e
      rw [e']
      rw [mineW_none]
      intro j hj
      have := h.1 j hj
      unfold hitB
      rw [decide_eq_false_iff_not]
      rintro ⟨_, _, h3⟩
      omega
    · rw [if_neg (by unfold hitB; rw [decide_eq_true_eq]; exact fun h => e h.2.2)]
      have e' : ((p.getD k ins0).a == c.conds.getD x.a.toNat 0) = false := by rw [beq_eq_false_iff_ne]; exact e
      rw [e']
      exact ih m h.2

theorem mayB_in {x : Ins} (h : mayB x = true) : opB x.op = true ∧ (0 ≤ x.a ∧ x.a < limA x.op) ∧ (0 ≤ x.b ∧ x.b < limB x.op) := by
  unfold mayB at h
  simp only [Bool.and_eq_true] at h
  exact ⟨h.1.1.1.1, amongB_iff.1 h.1.1.1.2, amongB_iff.1 h.1.1.2⟩
theorem mayB_enter {x : Ins} (h : mayB x = true) (h1 : x.op = 13) : 0 ≤ x.a ∧ (x.b = 0 ∨ x.b = 1) := by
  obtain ⟨_, h2, h3⟩ := mayB_in h
  rw [h1] at h2 h3
  have : limB 13 = 2 := by decide
  rw [this] at h3
  exact ⟨h2.1, by omega⟩

/-- The two answers at one place, out of what both hold. -/
theorem mis_eq {c : Cfg} {s : CV} {p : List Ins} {x : Ins} {v : Wk} {d : Std} (hx : mayB x = true) (hop : d.op = v.op.map (fun j => p.getD j ins0)) (hm : ∀ j ∈ v.op, (p.getD j ins0).b = 0 ∨ (p.getD j ins0).b = 1)
    (hasc : v.op.Pairwise fun i j => (p.getD i ins0).a < (p.getD j ins0).a) (hhi : v.op ≠ [] → d.hi = v.last) (hlp : v.op ≠ [] → (d.lp = true ↔ 0 < v.lp)) : wkF c s p x v = misF c s x d := by
  have hlen : d.op.length = v.op.length := by rw [hop]; simp
  have hx0 : 0 ≤ x.a := (mayB_in hx).2.1.1
  have hst : storeF d = if v.op.length = 0 then 0 else if writesW p v.op false = true then 0 else 7 := by
    unfold storeF
    rw [hlen, writesW_any]
    congr 2
    rw [hop, Bool.false_or, List.any_map]
    congr 1
    have : v.op.any ((fun x => !readsB x) ∘ fun j => p.getD j ins0) = v.op.any (fun k => (p.getD k ins0).b == 0) := by
      have : ∀ (l : List Nat), (∀ j ∈ l, (p.getD j ins0).b = 0 ∨ (p.getD j ins0).b = 1) → l.any ((fun x => !readsB x) ∘ fun j => p.getD j ins0) = l.any (fun k => (p.getD k ins0).b == 0) := by
        intro l
        induction l with
        | nil => intro _; rfl
        | cons k l ih =>
          intro hh
          rw [List.any_cons, List.any_cons, ih fun j hj => hh j (by simp [hj])]
          congr 1
          have hk := hh k (by simp)
          show (!((p.getD k ins0).b == 1)) = ((p.getD k ins0).b == 0)
          rcases hk with e | e <;> rw [e] <;> rfl
      exact this _ hm
    rw [this]
  unfold wkF misF
  by_cases q13 : x.op = 13
  · rw [if_pos q13, if_pos q13]
    unfold enterW enterF
    rw [hlen]
    by_cases g1 : (s.nl : Int) ≤ x.a
    · rw [if_pos g1, if_pos g1]
    rw [if_neg g1, if_neg g1]
    by_cases g2 : x.b = 1 ∧ (c.locks.getD x.a.toNat lk0).kind ≠ 3
    · rw [if_pos g2, if_pos g2]
    rw [if_neg g2, if_neg g2]
    by_cases g3 : v.op.length = 0
    · rw [if_pos g3, if_neg (by omega), if_neg (fun h => by omega)]
    rw [if_neg g3]
    by_cases g4 : 3 ≤ v.op.length
    · rw [if_pos g4, if_pos g4]
    rw [if_neg g4, if_neg g4]
    have hne : v.op ≠ [] := fun e => g3 (by rw [e]; rfl)
    rw [hhi hne]
    have : (0 < v.op.length ∧ (0 < v.lp ∨ x.a ≤ v.last)) ↔ (d.lp = true ∨ x.a ≤ v.last) := by
      rw [hlp hne]
      constructor
      · exact fun h => h.2
      · exact fun h => ⟨by omega, h⟩
    simp only [this]
  · rw [if_neg q13, if_neg q13]
    by_cases q14 : x.op = 14 ∨ x.op = 21 ∨ x.op = 22
    · rw [if_pos q14, if_neg (by omega), if_neg (by omega), if_neg (by omega)]
    rw [if_neg q14]
    unfold restW
    by_cases q9 : x.op = 9
    · rw [if_pos q9, if_neg (show ¬ (x.op = 10 ∨ x.op = 11) by omega), if_pos q9, hst]
      by_cases g : v.op.length = 0
      · rw [if_pos g, if_neg (fun h => by omega)]
      · rw [if_neg g]
        by_cases g2 : writesW p v.op false = true
        · rw [if_pos g2, if_neg (fun h => by rw [g2] at h; cases h.2)]
        · rw [if_neg g2, if_pos ⟨by omega, by simpa using g2⟩]
    rw [if_neg q9]
    by_cases q10 : x.op = 10 ∨ x.op = 11
    · rw [if_pos q10, if_pos q10, hst, hlen]
      by_cases g : v.op.length = 0
      · have hnil : v.op = [] := List.length_eq_zero_iff.1 g
        rw [if_pos g, if_pos (by rw [hnil]; rfl)]
      · rw [if_neg g, if_neg g]
        by_cases g2 : writesW p v.op false = true
        · rw [if_pos g2, if_neg (fun h => by rw [g2] at h; cases h)]
        · rw [if_neg g2, if_pos (by simpa using g2)]
    rw [if_neg q10, if_neg q10, if_neg q9]
    by_cases q15 : x.op = 15 ∨ x.op = 16 ∨ x.op = 17
    · rw [if_pos q15, if_pos q15]
      unfold callF
      by_cases g1 : (s.nc : Int) ≤ x.a
      · rw [if_pos g1, if_pos g1]
      rw [if_neg g1, if_neg g1, mine_find hx0 (by omega) v.op (-1) hasc, ← hop, hlen]
      cases hfd : d.op.find? (fun e => e.a == c.conds.getD x.a.toNat 0) with
      | none =>
        dsimp only
        rw [if_pos (.inl (by decide))]
        split <;> rfl
      | some e =>
        have hme := List.mem_of_find?_eq_some hfd
        have hl : 0 < v.op.length := by rw [← hlen]; exact List.length_pos_of_mem hme
        rw [hop, List.mem_map] at hme
        obtain ⟨j, hj, rfl⟩ := hme
        have hb := hm j hj
        dsimp only
        by_cases g2 : x.op = 15 ∧ 1 < v.op.length
        · rw [if_pos g2, if_pos (.inr ⟨g2.1, by omega⟩)]
        · rw [if_neg g2, if_neg (fun h => by omega)]
          show (if (p.getD j ins0).b = 1 then 7 else 0) = if ((p.getD j ins0).b == 1) = true then 7 else 0
          generalize (p.getD j ins0).b = bb at hb
          rcases hb with rfl | rfl <;> rfl
    · rw [if_neg q15, if_neg q15]

/-- Where the walk is at place k. -/
structure WAt (p : List Ins) (S' : MSt) (k : Nat) (v : Wk) : Prop where
  ex : ∃ S, wrun (opsOf p) (p.length - k) k S = some S' ∧ WE (opsOf p) k S ∧ MInv p.length k S ∧ WInv p k S v

theorem WAt.first {p : List Ins} {S' : MSt} (h : wrun (opsOf p) p.length 0 ⟨List.replicate p.length 0, []⟩ = some S') : WAt p S' 0 ⟨[], 0, 0⟩ := by
  have hv : MInv p.length 0 ⟨List.replicate p.length 0, []⟩ := ⟨by simp, fun e he => (by cases he), Nat.le_refl _⟩
  refine ⟨_, h, ⟨⟨_, hv⟩, ⟨fun i hi => (by omega), fun i j hi => (by omega), fun e he => (by cases he), List.Pairwise.nil⟩, fun e he => (by cases he)⟩, hv, ⟨rfl, List.Pairwise.nil, fun g r hg => (by cases hg), fun g r hg => (by cases hg)⟩⟩

theorem WAt.next {c : Cfg} {s : CV} {p : List Ins} {S' : MSt} {k : Nat} {v : Wk} (h : WAt p S' k v) (hk : k < p.length) (h0 : wkF c s p (p.getD k ins0) v = 0) : WAt p S' (k + 1) (wkNext (p.getD k ins0) k v) := by
  obtain ⟨S, hr, he, hv, hi⟩ := h.ex
  rw [show p.length - k = (p.length - (k + 1)) + 1 by omega, wrun] at hr
  obtain ⟨S1, hs, hr⟩ := Option.bind_eq_some_iff.1 hr
  exact ⟨S1, hr, he.step hv hk hs, hv.step hs, hi.step he hv hk hs h0⟩

theorem WAt.lens {p : List Ins} {S' : MSt} {k : Nat} {v : Wk} (h : WAt p S' k v) : v.op.length ≤ k ∧ ∀ j ∈ v.op, j < k := by
  obtain ⟨S, hr, he, hv, hi⟩ := h.ex
  refine ⟨?_, fun j hj => hi.lt hv hj⟩
  rw [hi.op, List.length_map]
  exact Nat.le_trans (List.length_filter_le _ _) hv.few

theorem WAt.mis {c : Cfg} {s : CV} {p : List Ins} {S' : MSt} {k : Nat} {v : Wk} (h : WAt p S' k v) (hk : k < p.length) (h0 : S'.op = []) (hmay : ∀ j, j < p.length → mayB (p.getD j ins0) = true) :
    wkF c s p (p.getD k ins0) v = misF c s (p.getD k ins0) (aroundF p S'.ms k) := by
  obtain ⟨S, hr, he, hv, hi⟩ := h.ex
  rw [show p.length - k = (p.length - (k + 1)) + 1 by omega, wrun] at hr
  obtain ⟨S1, hs, hr⟩ := Option.bind_eq_some_iff.1 hr
  have hx := hmay k hk
  by_cases hout : isOut (p.getD k ins0).op = true
  · -- what goes out is asked nothing
    unfold isOut at hout
    rw [decide_eq_true_eq] at hout
    unfold wkF misF restW
    generalize (p.getD k ins0).op = o at hout
    rw [if_neg (show ¬ o = 13 by omega), if_neg (show ¬ o = 13 by omega), if_neg (show ¬ (o = 10 ∨ o = 11) by omega), if_neg (show ¬ o = 9 by omega), if_neg (show ¬ (o = 15 ∨ o = 16 ∨ o = 17) by omega)]
    simp only [if_neg (show ¬ (o = 10 ∨ o = 11) by omega), if_neg (show ¬ o = 9 by omega), if_neg (show ¬ (o = 15 ∨ o = 16 ∨ o = 17) by omega)]
    split <;> rfl
  · have hout : isOut (p.getD k ins0).op = false := by simpa using hout
    obtain ⟨m1, m2⟩ := wrun_ms (os := opsOf p) (n := p.length) (p.length - (k + 1)) (k + 1) S1 S' (by omega) (he.step hv hk hs) (hv.step hs) hr h0
    -- who is open is so behind k, too
    have hopn : ∀ j, j < k → (opn S1 j ↔ opn S j) ∧ (¬ opn S j → S1.ms.getD j 0 < (k : Int)) := by
      intro j hj
      have hms : ∀ ms : List Int, ms = S.ms.set k (-1) → ms.getD j 0 < (k : Int) := fun ms e => by
        rw [e, getD_set, if_neg (fun e => by omega)]
        exact he.old.low j hj
      cases WS.of hs with
      | inn hin h1 =>
        subst h1
        refine ⟨⟨fun ⟨f, hf⟩ => ?_, fun ⟨f, hf⟩ => ⟨f, List.mem_append_left _ hf⟩⟩, fun _ => hms _ rfl⟩
        rcases List.mem_append.1 hf with hf | hf
        · exact ⟨f, hf⟩
        · simp at hf; omega
      | oth hin ho h1 =>
        subst h1
        exact ⟨Iff.rfl, fun _ => hms _ rfl⟩
      | out t fr la ho _ _ _ =>
        rw [opsOf_get, hout] at ho
        cases ho
    have hF : ∀ j, j < k → (decide ((k : Int) < S'.ms.getD j 0) = true ↔ opn S j) := by
      intro j hj
      rw [decide_eq_true_eq]
      by_cases ho : opn S j
      · have := m1 j (by omega) ((hopn j hj).1.2 ho)
        exact ⟨fun _ => ho, fun _ => by omega⟩
      · have h1 := m2 j (by omega) (fun h => ho ((hopn j hj).1.1 h))
        have h2 := (hopn j hj).2 ho
        exact ⟨fun h => by omega, fun h => absurd h ho⟩
    have hone : ∀ j l, (j, l) ∈ S.op → (p.getD j ins0).op ≠ 18 → l = j := fun j l hl hn => by
      rcases he.en _ hl with ⟨q, _⟩ | ⟨q, _, _⟩
      · exact q.symm
      · dsimp only at q
        rw [opsOf_get] at q
        exact absurd q hn
    have hone' : ∀ j l, (j, l) ∈ S.op → (p.getD l ins0).op ≠ 19 → l = j := fun j l hl hn => by
      rcases he.en _ hl with ⟨q, _⟩ | ⟨_, q, _⟩
      · exact q.symm
      · dsimp only at q
        rw [opsOf_get] at q
        exact absurd q hn
    have hkind : ∀ j o, o = 13 ∨ o = 21 → (p.getD j ins0).op = o → ((∃ l, (j, l) ∈ S.op) ↔ opn S j) := fun j o ho hj => by
      constructor
      · rintro ⟨l, hl⟩
        have := hone j l hl (by omega)
        subst this
        exact ⟨_, hl⟩
      · rintro ⟨f, hf⟩
        have := hone' f j hf (by omega)
        subst this
        exact ⟨_, hf⟩
    have hAr := around_char (p := p) (ms := S'.ms) (q := k) (O := v.op) (Nat.le_of_lt hk) (hi.rise he) (fun j hj => by
      rw [hF j hj, hi.mem]
      constructor
      · rintro ⟨l, h1, h2⟩
        exact ⟨h2, (hkind j 13 (.inl rfl) h2).1 ⟨l, h1⟩⟩
      · rintro ⟨h1, h2⟩
        obtain ⟨l, hl⟩ := (hkind j 13 (.inl rfl) h1).2 h2
        exact ⟨l, hl, h1⟩) (fun j hj h13 => (mayB_enter (hmay j (by omega)) h13).1) k (Nat.le_refl _)
    obtain ⟨a1, a2, a3, a4⟩ := hAr
    have hall : v.op.filter (fun j => decide (j < k)) = v.op := by
      rw [List.filter_eq_self]
      intro j hj
      have := hi.lt hv hj
      simpa using this
    rw [hall] at a1 a2 a3 a4
    refine mis_eq hx a1 (fun j hj => ?_) hi.asc (fun hne => ?_) (fun hne => ?_)
    · obtain ⟨l, _, h13⟩ := hi.mem.1 hj
      exact (mayB_enter (hmay j (by have := hi.lt hv hj; omega)) h13).2
    · cases hvo : v.op with
      | nil => exact absurd hvo hne
      | cons g r => exact (a3 g r hvo).eq (hi.top g r hvo)
    · cases hvo : v.op with
      | nil => exact absurd hvo hne
      | cons g r =>
        show (arGo S'.ms k (p.take k) 0 ⟨[], 0, false⟩).lp = true ↔ _
        rw [a4 g r hvo, hi.lp g r hvo]
        have hp := loopsN_pos (os := opsOf p) (h := g) (l := S.op)
        constructor
        · rintro ⟨j, q1, q2, q3, q4⟩
          obtain ⟨l, hl⟩ := (hkind j 21 (.inr rfl) q3).2 ((hF j q2).1 q4)
          have := hp.2 ⟨(j, l), hl, by rw [opsOf_get]; exact q3, q1⟩
          omega
        · intro h
          obtain ⟨⟨j, l⟩, q1, q2, q3⟩ := hp.1 (by omega)
          dsimp only at q2 q3
          rw [opsOf_get] at q2
          have hj := (hv.lt _ q1).1
          dsimp only at hj
          exact ⟨j, q3, hj, q2, (hF j hj).2 ((hkind j 21 (.inr rfl) q2).1 ⟨l, q1⟩)⟩

end Go.Proofs.YtblalejegjieaaaGreatDoor

namespace Go.Proofs.YtblalejegjieaaaGreatDoor
open Go.RowKit
set_option linter.unusedVariables false

/-- What kind of field each is: 0 none, 1 a register, 2 a lock, 3 a condition, 4 zero or one. -/
def fA (op : Int) : Int := [0, 1, 1, 1, 1, 1, 1, 1, 1, 1, 0, 0, 1, 2, 0, 3, 3, 3, 1, 0, 0, 1, 0].getD op.toNat 0
def fB (op : Int) : Int := [0, 0, 1, 1, 1, 1, 1, 1, 1, 1, 1, 1, 0, 4, 0, 0, 0, 0, 0, 0, 0, 0, 0].getD op.toNat 0
def fC (op : Int) : Int := [0, 0, 1, 1, 1, 1, 1, 1, 0, 0, 0, 0, 0, 0, 0, 0, 0, 0, 0, 0, 0, 0, 0].getD op.toNat 0
/-- How many numbers a kind has. -/
def kindN (k : Int) : Int := [1, 4, 4, 4, 2].getD k.toNat 1
def inKind (k : Int) : Prop := 0 ≤ k ∧ k ≤ 4

theorem results_tmp4 {fn : Func} {t u v x : Tmp} (h : fn.results = #[.tmp t, .tmp u, .tmp v, .tmp x]) (tmps : Array Value) (P : Program) (w : World) :
    (results fn tmps).run P w = .ok (.tuple #[tmps.getD t undef, tmps.getD u undef, tmps.getD v undef, tmps.getD x undef]) w := by
  simp [results, h]

set_option maxHeartbeats 4000000 in
theorem fields_any (op : Int) (w : World) (ho : opB op = true) :
    Calls Tryz.prog 70 #[.int .i64 op] w fun e w' => e = .returned (.tuple #[.int .i64 (fA op), .int .i64 (fB op), .int .i64 (fC op), .bool (freeB op)]) ∧ w = w' := by
  rcases op_cases op with (rfl | rfl | rfl | rfl | rfl | rfl | rfl | rfl | rfl | rfl | rfl) | (rfl | rfl | rfl | rfl | rfl | rfl | rfl | rfl | rfl | rfl | rfl) | h
  case inr.inr => exact absurd (of_decide_eq_true ho) (by omega)
  all_goals
    clear ho
    go_enter Tryz.func70, Tryz.ntmps70
    go_wp2
    (try simp only [Exit.inBlock, Exit.then])
    refine bodyPost_ret (results_tmp4 rfl _ _ _) rfl ?_
    exact ⟨rfl, rfl⟩

set_option maxHeartbeats 4000000 in
theorem fields_no (op : Int) (w : World) (ho : op < 1 ∨ 22 < op) :
    Calls Tryz.prog 70 #[.int .i64 op] w fun e w' => e = .returned (.tuple #[.int .i64 0, .int .i64 0, .int .i64 0, .bool false]) ∧ w = w' := by
  have e1 : ∀ k : Int, 1 ≤ k → k ≤ 22 → (op == k) = false := fun k h1 h2 => by simp; omega
  have g1 := e1 1 (by omega) (by omega)
  have g2 := e1 2 (by omega) (by omega)
  have g3 := e1 3 (by omega) (by omega)
  have g4 := e1 4 (by omega) (by omega)
  have g5 := e1 5 (by omega) (by omega)
  have g6 := e1 6 (by omega) (by omega)
  have g7 := e1 7 (by omega) (by omega)
  have g8 := e1 8 (by omega) (by omega)
  have g9 := e1 9 (by omega) (by omega)
  have g10 := e1 10 (by omega) (by omega)
  have g11 := e1 11 (by omega) (by omega)
  have g12 := e1 12 (by omega) (by omega)
  have g13 := e1 13 (by omega) (by omega)
  have g15 := e1 15 (by omega) (by omega)
  have g16 := e1 16 (by omega) (by omega)
  have g17 := e1 17 (by omega) (by omega)
  have g18 := e1 18 (by omega) (by omega)
  have g21 := e1 21 (by omega) (by omega)
  clear e1 ho
  go_enter Tryz.func70, Tryz.ntmps70
  go_wp2
  (try simp only [Exit.inBlock, Exit.then])
  refine bodyPost_ret (results_tmp4 rfl _ _ _) rfl ?_
  exact ⟨rfl, rfl⟩

theorem kindN_pos (k : Int) (h : inKind k) : 1 ≤ kindN k := by
  obtain ⟨h0, h1⟩ := h
  have : k = 0 ∨ k = 1 ∨ k = 2 ∨ k = 3 ∨ k = 4 := by omega
  rcases this with rfl | rfl | rfl | rfl | rfl <;> decide

set_option maxHeartbeats 4000000 in
theorem field_any (k x : Int) (w : World) (hk : inKind k) :
    Calls Tryz.prog 71 #[.int .i64 k, .int .i64 x] w fun e w' => e = .returned (.bool (amongB x (kindN k))) ∧ Below w.heap.size w w' := by
  obtain ⟨h0, h1⟩ := hk
  have : k = 0 ∨ k = 1 ∨ k = 2 ∨ k = 3 ∨ k = 4 := by omega
  clear h0 h1
  by_cases h2 : 0 ≤ x
  case neg =>
    have HA : ∀ m, amongB x m = false := fun m => amongB_no (fun h => h2 h.1)
    have H := hid HA
    clear HA
    rcases this with rfl | rfl | rfl | rfl | rfl
    all_goals
      go_enter Tryz.func71, Tryz.ntmps71
      go_wp2
      go_ret
      exact ⟨by rw [H.out]; rfl, (Below.refl _ _).alloc (Nat.le_refl _) _⟩
  case pos =>
    rcases this with rfl | rfl | rfl | rfl | rfl
    · by_cases h3 : x ≤ 0
      · have H := hid (amongB_yes (n := x) (m := kindN 0) h2 (by show x < 1; omega))
        go_enter Tryz.func71, Tryz.ntmps71
        go_wp2
        go_ret
        exact ⟨by rw [H.out]; rfl, (Below.refl _ _).alloc (Nat.le_refl _) _⟩
      · have H := hid (amongB_no (n := x) (m := kindN 0) (by show ¬ (0 ≤ x ∧ x < 1); omega))
        go_enter Tryz.func71, Tryz.ntmps71
        go_wp2
        go_ret
        exact ⟨by rw [H.out]; rfl, (Below.refl _ _).alloc (Nat.le_refl _) _⟩
    · by_cases h3 : x ≤ 3
      · have H := hid (amongB_yes (n := x) (m := kindN 1) h2 (by show x < 4; omega))
        go_enter Tryz.func71, Tryz.ntmps71
        go_wp2
        go_ret
        exact ⟨by rw [H.out]; rfl, (Below.refl _ _).alloc (Nat.le_refl _) _⟩
      · have H := hid (amongB_no (n := x) (m := kindN 1) (by show ¬ (0 ≤ x ∧ x < 4); omega))
        go_enter Tryz.func71, Tryz.ntmps71
        go_wp2
        go_ret
        exact ⟨by rw [H.out]; rfl, (Below.refl _ _).alloc (Nat.le_refl _) _⟩
    · by_cases h3 : x ≤ 3
      · have H := hid (amongB_yes (n := x) (m := kindN 2) h2 (by show x < 4; omega))
        go_enter Tryz.func71, Tryz.ntmps71
        go_wp2
        go_ret
        exact ⟨by rw [H.out]; rfl, (Below.refl _ _).alloc (Nat.le_refl _) _⟩
      · have H := hid (amongB_no (n := x) (m := kindN 2) (by show ¬ (0 ≤ x ∧ x < 4); omega))
        go_enter Tryz.func71, Tryz.ntmps71
        go_wp2
        go_ret
        exact ⟨by rw [H.out]; rfl, (Below.refl _ _).alloc (Nat.le_refl _) _⟩
    · by_cases h3 : x ≤ 3
      · have H := hid (amongB_yes (n := x) (m := kindN 3) h2 (by show x < 4; omega))
        go_enter Tryz.func71, Tryz.ntmps71
        go_wp2
        go_ret
        exact ⟨by rw [H.out]; rfl, (Below.refl _ _).alloc (Nat.le_refl _) _⟩
      · have H := hid (amongB_no (n := x) (m := kindN 3) (by show ¬ (0 ≤ x ∧ x < 4); omega))
        go_enter Tryz.func71, Tryz.ntmps71
        go_wp2
        go_ret
        exact ⟨by rw [H.out]; rfl, (Below.refl _ _).alloc (Nat.le_refl _) _⟩
    · by_cases h3 : x ≤ 1
      · have H := hid (amongB_yes (n := x) (m := kindN 4) h2 (by show x < 2; omega))
        go_enter Tryz.func71, Tryz.ntmps71
        go_wp2
        go_ret
        exact ⟨by rw [H.out]; rfl, (Below.refl _ _).alloc (Nat.le_refl _) _⟩
      · have H := hid (amongB_no (n := x) (m := kindN 4) (by show ¬ (0 ≤ x ∧ x < 2); omega))
        go_enter Tryz.func71, Tryz.ntmps71
        go_wp2
        go_ret
        exact ⟨by rw [H.out]; rfl, (Below.refl _ _).alloc (Nat.le_refl _) _⟩

theorem kinds_of (op : Int) (h : opB op = true) : (inKind (fA op) ∧ inKind (fB op) ∧ inKind (fC op)) ∧ kindN (fA op) = limA op ∧ kindN (fB op) = limB op ∧ kindN (fC op) = limC op := by
  rcases op_cases op with (rfl | rfl | rfl | rfl | rfl | rfl | rfl | rfl | rfl | rfl | rfl) | (rfl | rfl | rfl | rfl | rfl | rfl | rfl | rfl | rfl | rfl | rfl) | h'
  case inr.inr => exact absurd (of_decide_eq_true h) (by omega)
  all_goals exact ⟨⟨by unfold inKind; decide, by unfold inKind; decide, by unfold inKind; decide⟩, rfl, rfl, rfl⟩

set_option maxHeartbeats 4000000 in
theorem MayInstr_any (i : Ins) (w : World) :
    Calls Tryz.prog 51 #[i.v] w fun e w' => e = .returned (.bool (mayB i)) ∧ Below w.heap.size w w' := by
  obtain ⟨op, a, b, c, n⟩ := i
  show Calls _ _ #[.agg #[.int .i64 op, .int .i64 a, .int .i64 b, .int .i64 c, .int .i64 n]] _ _
  by_cases ho : 1 ≤ op ∧ op ≤ 22
  case neg =>
    have H := hid (mayB_none (i := ⟨op, a, b, c, n⟩) (show op < 1 ∨ 22 < op by omega))
    have h1 : op < 1 ∨ 22 < op := by omega
    rcases h1 with h1 | h1
    all_goals
      have HF := hid (show op < 1 ∨ 22 < op by omega)
      clear ho
      go_enter Tryz.func51, Tryz.ntmps51
      go_wp2_with (first | (go_at_call 70; refine (fields_no _ _ HF.out).mono ?_; rintro e w' ⟨rfl, rfl⟩))
      go_ret
      exact ⟨by rw [H.out]; rfl, (Below.refl _ _).alloc (Nat.le_refl _) _⟩
  case pos =>
    have ho' : opB op = true := decide_eq_true ho
    have HO := hid ho'
    have HM : mayB ⟨op, a, b, c, n⟩ = (amongB a (limA op) && (amongB b (limB op) && (amongB c (limC op) && (freeB op || decide (n = 0))))) := by
      unfold mayB; rw [ho']; simp [Bool.and_assoc]
    obtain ⟨⟨k1, k2, k3⟩, e1, e2, e3⟩ := kinds_of op ho'
    rw [← e1, ← e2, ← e3] at HM
    obtain ⟨o1, o2⟩ := ho
    have FC := fun w => fields_any op w ho'
    clear e1 e2 e3 ho' HO
    generalize fA op = la at HM k1 FC ⊢
    generalize fB op = lb at HM k2 FC ⊢
    generalize fC op = lc at HM k3 FC ⊢
    generalize freeB op = fr at HM FC ⊢
    have K1 := hid k1
    have K2 := hid k2
    have K3 := hid k3
    have FC' := hid FC
    clear k1 k2 k3 FC
    cases h1 : amongB a (kindN la)
    case' true => cases h2 : amongB b (kindN lb)
    case' true.true => cases h3 : amongB c (kindN lc)
    case' true.true.true => cases fr
    case' true.true.true.false => cases h5 : (n == 0)
    case true.true.true.false.false =>
      have H := hid (show mayB ⟨op, a, b, c, n⟩ = false by rw [HM, h1, h2, h3]; simpa using h5)
      clear HM
      go_enter Tryz.func51, Tryz.ntmps51
      go_wp2_with (first | (go_at_call 70; (with_reducible refine (FC'.out _).mono ?_); rintro e w' ⟨rfl, rfl⟩) | (go_at_call 71; (with_reducible refine (field_any _ _ _ K1.out).mono ?_); rintro e w1 ⟨rfl, b1⟩; obtain ⟨c1, g1, s1⟩ := bcell b1 (size_alloc1 _ _); have z1 : w.heap.size < w1.heap.size := Nat.lt_of_lt_of_le (Nat.lt_succ_self _) s1) | (go_at_call 71; (with_reducible refine (field_any _ _ _ K2.out).mono ?_); rintro e w2 ⟨rfl, b2⟩; obtain ⟨c2, g2, s2⟩ := bcell b2 rfl; have z2 : w.heap.size < w2.heap.size := Nat.lt_of_lt_of_le z1 s2) | (go_at_call 71; (with_reducible refine (field_any _ _ _ K3.out).mono ?_); rintro e w3 ⟨rfl, b3⟩; obtain ⟨c3, g3, s3⟩ := bcell b3 rfl; have z3 : w.heap.size < w3.heap.size := Nat.lt_of_lt_of_le z2 s3))
      go_ret
      exact ⟨by rw [H.out]; rfl, bthen (bthen (bthen (bnew (bid _) _) b1) b2) b3⟩
    case true.true.true.false.true =>
      have H := hid (show mayB ⟨op, a, b, c, n⟩ = true by rw [HM, h1, h2, h3]; simpa using h5)
      clear HM
      go_enter Tryz.func51, Tryz.ntmps51
      go_wp2_with (first | (go_at_call 70; (with_reducible refine (FC'.out _).mono ?_); rintro e w' ⟨rfl, rfl⟩) | (go_at_call 71; (with_reducible refine (field_any _ _ _ K1.out).mono ?_); rintro e w1 ⟨rfl, b1⟩; obtain ⟨c1, g1, s1⟩ := bcell b1 (size_alloc1 _ _); have z1 : w.heap.size < w1.heap.size := Nat.lt_of_lt_of_le (Nat.lt_succ_self _) s1) | (go_at_call 71; (with_reducible refine (field_any _ _ _ K2.out).mono ?_); rintro e w2 ⟨rfl, b2⟩; obtain ⟨c2, g2, s2⟩ := bcell b2 rfl; have z2 : w.heap.size < w2.heap.size := Nat.lt_of_lt_of_le z1 s2) | (go_at_call 71; (with_reducible refine (field_any _ _ _ K3.out).mono ?_); rintro e w3 ⟨rfl, b3⟩; obtain ⟨c3, g3, s3⟩ := bcell b3 rfl; have z3 : w.heap.size < w3.heap.size := Nat.lt_of_lt_of_le z2 s3))
      go_ret
      exact ⟨by rw [H.out]; rfl, bthen (bthen (bthen (bnew (bid _) _) b1) b2) b3⟩
    case true.true.true.true =>
      have H := hid (show mayB ⟨op, a, b, c, n⟩ = true by rw [HM, h1, h2, h3]; rfl)
      clear HM
      go_enter Tryz.func51, Tryz.ntmps51
      go_wp2_with (first | (go_at_call 70; (with_reducible refine (FC'.out _).mono ?_); rintro e w' ⟨rfl, rfl⟩) | (go_at_call 71; (with_reducible refine (field_any _ _ _ K1.out).mono ?_); rintro e w1 ⟨rfl, b1⟩; obtain ⟨c1, g1, s1⟩ := bcell b1 (size_alloc1 _ _); have z1 : w.heap.size < w1.heap.size := Nat.lt_of_lt_of_le (Nat.lt_succ_self _) s1) | (go_at_call 71; (with_reducible refine (field_any _ _ _ K2.out).mono ?_); rintro e w2 ⟨rfl, b2⟩; obtain ⟨c2, g2, s2⟩ := bcell b2 rfl; have z2 : w.heap.size < w2.heap.size := Nat.lt_of_lt_of_le z1 s2) | (go_at_call 71; (with_reducible refine (field_any _ _ _ K3.out).mono ?_); rintro e w3 ⟨rfl, b3⟩; obtain ⟨c3, g3, s3⟩ := bcell b3 rfl; have z3 : w.heap.size < w3.heap.size := Nat.lt_of_lt_of_le z2 s3))
      go_ret
      exact ⟨by rw [H.out]; rfl, bthen (bthen (bthen (bnew (bid _) _) b1) b2) b3⟩
    all_goals
      have H := hid (show mayB ⟨op, a, b, c, n⟩ = false by rw [HM]; simp [*])
      clear HM
      go_enter Tryz.func51, Tryz.ntmps51
      go_wp2_with (first | (go_at_call 70; (with_reducible refine (FC'.out _).mono ?_); rintro e w' ⟨rfl, rfl⟩) | (go_at_call 71; (with_reducible refine (field_any _ _ _ K1.out).mono ?_); rintro e w1 ⟨rfl, b1⟩; obtain ⟨c1, g1, s1⟩ := bcell b1 (size_alloc1 _ _); have z1 : w.heap.size < w1.heap.size := Nat.lt_of_lt_of_le (Nat.lt_succ_self _) s1) | (go_at_call 71; (with_reducible refine (field_any _ _ _ K2.out).mono ?_); rintro e w2 ⟨rfl, b2⟩; obtain ⟨c2, g2, s2⟩ := bcell b2 rfl; have z2 : w.heap.size < w2.heap.size := Nat.lt_of_lt_of_le z1 s2) | (go_at_call 71; (with_reducible refine (field_any _ _ _ K3.out).mono ?_); rintro e w3 ⟨rfl, b3⟩; obtain ⟨c3, g3, s3⟩ := bcell b3 rfl; have z3 : w.heap.size < w3.heap.size := Nat.lt_of_lt_of_le z2 s3))
      go_ret
      first
        | exact ⟨by rw [H.out]; rfl, bthen (bthen (bthen (bnew (bid _) _) b1) b2) b3⟩
        | exact ⟨by rw [H.out]; rfl, bthen (bthen (bnew (bid _) _) b1) b2⟩
        | exact ⟨by rw [H.out]; rfl, bthen (bnew (bid _) _) b1⟩

end Go.Proofs.YtblalejegjieaaaGreatDoor

namespace Go.Proofs.YtblalejegjieaaaGreatDoor
open Go.RowKit
set_option linter.unusedVariables false

/-- The walk in its block. -/
structure WkBox (w : World) (q : Nat) (v : Wk) (ov : Value) (W : World) : Prop where
  blk : W.heap[q]? = some (.cells #[ov, .int .i64 v.last, .int .i64 v.lp] 102 (0, 0))
  own : OwnInt 3 w.heap.size ov (v.op.map fun j : Nat => (j : Int)) W
  ne : ov.ownBlock ≠ some q
  q0 : w.heap.size ≤ q
  below : Below w.heap.size w W
theorem WkBox.later {w W W' : World} {q : Nat} {v : Wk} {ov : Value} (h : WkBox w q v ov W) (hb : Below W.heap.size W W') : WkBox w q v ov W' :=
  ⟨(hb.block _ (lt_of_block h.blk)).trans h.blk, h.own.below hb, h.ne, h.q0, bthen h.below hb⟩
theorem WkBox.put {w W : World} {q : Nat} {v v' : Wk} {ov ov' : Value} (h : WkBox w q v ov W) (i : Nat) (u : Value) (ho : OwnInt 3 w.heap.size ov' (v'.op.map fun j : Nat => (j : Int)) W) (hn : ov'.ownBlock ≠ some q)
    (he : (#[ov, .int .i64 v.last, .int .i64 v.lp] : Array Value).setIfInBounds i u = #[ov', .int .i64 v'.last, .int .i64 v'.lp]) : WkBox w q v' ov' (W.setCell ⟨q, i, none⟩ u) := by
  have hw : Wrote (fun b => b = q) W (W.setCell ⟨q, i, none⟩ u) := Wrote.setCell (S := fun b => b = q) (Wrote.refl _ W) (p := ⟨q, i, none⟩) (fun _ => rfl) _
  refine ⟨?_, ho.kept hw (fun x hx e => hn (by rw [hx, e])), hn, h.q0, h.below.setCell h.q0 _⟩
  have := blk_setCell h.blk i u
  rw [he] at this
  exact this
theorem WkBox.facts {w W : World} {q : Nat} {v : Wk} {ov : Value} (h : WkBox w q v ov W) :
    (W.cell? ⟨q, 0, none⟩ = some ov ∧ W.cell? ⟨q, 1, none⟩ = some (.int .i64 v.last) ∧ W.cell? ⟨q, 2, none⟩ = some (.int .i64 v.lp)) ∧ (W.frozen? ⟨q, 0, none⟩ = false ∧ W.frozen? ⟨q, 1, none⟩ = false ∧ W.frozen? ⟨q, 2, none⟩ = false) :=
  ⟨⟨cell_of_blk h.blk 0, cell_of_blk h.blk 1, cell_of_blk h.blk 2⟩, ⟨frozen_of_blk h.blk 0, frozen_of_blk h.blk 1, frozen_of_blk h.blk 2⟩⟩
theorem WkBox.slice {w W : World} {q : Nat} {v : Wk} {ov : Value} (h : WkBox w q v ov W) : ∃ a c, ov = .slice a v.op.length c := by
  obtain ⟨a, c, rfl, _⟩ := h.own.shape
  exact ⟨a, c, by rw [List.length_map]⟩

/-- An instruction in a block of its own. -/
def InsBox (W : World) (b : Nat) (x : Ins) : Prop := W.heap[b]? = some (.cells #[.int .i64 x.op, .int .i64 x.a, .int .i64 x.b, .int .i64 x.c, .int .i64 x.n] 40 (0, 0))
theorem InsBox.below {W W' : World} {b : Nat} {x : Ins} (h : InsBox W b x) (hb : Below W.heap.size W W') : InsBox W' b x := (hb.block _ (lt_of_block h)).trans h
theorem InsBox.facts {W : World} {b : Nat} {x : Ins} (h : InsBox W b x) : W.cell? ⟨b, 0, none⟩ = some (.int .i64 x.op) ∧ W.cell? ⟨b, 1, none⟩ = some (.int .i64 x.a) ∧ W.cell? ⟨b, 2, none⟩ = some (.int .i64 x.b) :=
  ⟨cell_of_blk h 0, cell_of_blk h 1, cell_of_blk h 2⟩

/-- The call's beginning: the config and the instruction boxed. -/
structure EnSt (w W0 : World) (c : Cfg) (s : CV) (x : Ins) (q : Nat) (v : Wk) (ov : Value) (W : World) : Prop where
  cfg : CfgBox W W0.heap.size c s
  ins : InsBox W (W0.heap.size + 1) x
  wk : WkBox w q v ov W
  low : q < W0.heap.size
  ob : ∀ g, ov.ownBlock = some g → g < W0.heap.size
theorem EnSt.new {w W0 : World} {c : Cfg} {s : CV} {x : Ins} {q : Nat} {v : Wk} {ov : Value} (h : WkBox w q v ov W0) :
    EnSt w W0 c s x q v ov ((W0.alloc (.cells (c.cs s) 34)).alloc (.cells #[.int .i64 x.op, .int .i64 x.a, .int .i64 x.b, .int .i64 x.c, .int .i64 x.n] 40)) :=
  ⟨(CfgBox.new W0 c s).below (bnew (bid _) _), by
    have := heap_alloc_new (W0.alloc (.cells (c.cs s) 34)) (.cells #[.int .i64 x.op, .int .i64 x.a, .int .i64 x.b, .int .i64 x.c, .int .i64 x.n] 40)
    rw [size_alloc1] at this
    exact this, h.later (bnew (bnew (bid _) _) _), lt_of_block h.blk, fun g hg => (h.own.old hg).2⟩

theorem EnSt.put {w W0 W : World} {c : Cfg} {s : CV} {x : Ins} {q : Nat} {v v' : Wk} {ov ov' : Value} (h : EnSt w W0 c s x q v ov W) (i : Nat) (u : Value) (n : Nat) (ho : OwnInt 3 w.heap.size ov' (v'.op.map fun j : Nat => (j : Int)) W) (hn : ov'.ownBlock ≠ some q) (hb' : ∀ g, ov'.ownBlock = some g → g < W0.heap.size)
    (he : (#[ov, .int .i64 v.last, .int .i64 v.lp] : Array Value).setIfInBounds i u = #[ov', .int .i64 v'.last, .int .i64 v'.lp]) : EnSt w W0 c s x q v' ov' ((W.drewN n).setCell ⟨q, i, none⟩ u) := by
  have h' : EnSt w W0 c s x q v ov (W.drewN n) := ⟨h.cfg.below (bdrewN (bid _)), h.ins.below (bdrewN (bid _)), h.wk.later (bdrewN (bid _)), h.low, h.ob⟩
  have hw : Wrote (fun b => b = q) (W.drewN n) ((W.drewN n).setCell ⟨q, i, none⟩ u) := Wrote.setCell (S := fun b => b = q) (Wrote.refl _ _) (p := ⟨q, i, none⟩) (fun _ => rfl) _
  have hl := h.low
  exact ⟨(hw.block _ (lt_of_block h'.cfg) (by omega)).trans h'.cfg, (hw.block _ (lt_of_block h'.ins) (by omega)).trans h'.ins, h'.wk.put i u (ho.below (bdrewN (bid _))) hn he, hl, hb'⟩
theorem EnSt.drew {w W0 W : World} {c : Cfg} {s : CV} {x : Ins} {q : Nat} {v : Wk} {ov : Value} (h : EnSt w W0 c s x q v ov W) (n : Nat) : EnSt w W0 c s x q v ov (W.drewN n) := ⟨h.cfg.below (bdrewN (bid _)), h.ins.below (bdrewN (bid _)), h.wk.later (bdrewN (bid _)), h.low, h.ob⟩
/-- What append leaves as it was. -/
theorem EnSt.grown {w W0 W W' : World} {c : Cfg} {s : CV} {x : Ins} {q : Nat} {v : Wk} {ov : Value} (h : EnSt w W0 c s x q v ov W) (hw : Wrote (fun b => ov.ownBlock = some b) W W') :
    CfgBox W' W0.heap.size c s ∧ InsBox W' (W0.heap.size + 1) x ∧ W'.heap[q]? = some (.cells #[ov, .int .i64 v.last, .int .i64 v.lp] 102 (0, 0)) ∧ Below w.heap.size w W' :=
  ⟨(hw.block _ (lt_of_block h.cfg) (fun e => by have := h.ob _ e; omega)).trans h.cfg, (hw.block _ (lt_of_block h.ins) (fun e => by have := h.ob _ e; omega)).trans h.ins, (hw.block _ (lt_of_block h.wk.blk) h.wk.ne).trans h.wk.blk, h.wk.below.trans (hw.below h.wk.below.size fun j hj e => by have := (h.wk.own.old e).1; omega)⟩
theorem enter_stored {w U Y W0 : World} {x : Ins} {q k : Nat} {l : List Nat} {la lp : Int} {ov v' : Value} (h2 : InsBox Y (W0.heap.size + 1) x) (h3 : Y.heap[q]? = some (.cells #[ov, .int .i64 la, .int .i64 lp] 102 (0, 0))) (h4 : Below w.heap.size w Y)
    (ho : OwnInt 3 w.heap.size v' ((l ++ [k]).map fun j : Nat => (j : Int)) Y) (hat : v'.ownBlock = ov.ownBlock ∨ v'.ownBlock = some (U.heap.size + 1)) (hq : q < W0.heap.size) (hq0 : w.heap.size ≤ q) (hob : ∀ g, ov.ownBlock = some g → g < W0.heap.size) (hU : W0.heap.size ≤ U.heap.size) (hne : ov.ownBlock ≠ some q) :
    InsBox (Y.setCell ⟨q, 0, none⟩ v') (W0.heap.size + 1) x ∧ WkBox w q ⟨l ++ [k], la, lp⟩ v' (Y.setCell ⟨q, 0, none⟩ v') := by
  have hw : Wrote (fun b => b = q) Y (Y.setCell ⟨q, 0, none⟩ v') := Wrote.setCell (S := fun b => b = q) (Wrote.refl _ _) (p := ⟨q, 0, none⟩) (fun _ => rfl) _
  have hn : v'.ownBlock ≠ some q := fun e => by
    rcases hat with h | h
    · exact hne (h ▸ e)
    · rw [h] at e
      simp only [Option.some.injEq] at e
      omega
  exact ⟨(hw.block _ (lt_of_block h2) (by omega)).trans h2, blk_setCell h3 0 v', ho.kept hw (fun x hx e => hn (by rw [hx, e])), hn, hq0, h4.setCell hq0 _⟩
theorem infoWk : (Tryz.prog.info? 3).map (fun i => (i.zero, i.size, i.bytes)) = some (some (.int .i64 0), 1, 8) := by kernel_rfl

theorem enterW_1 {c : Cfg} {s : CV} {x : Ins} {v : Wk} (h1 : (s.nl : Int) ≤ x.a) : enterW c s x v = 6 := by unfold enterW; rw [if_pos h1]
theorem enterW_2 {c : Cfg} {s : CV} {x : Ins} {v : Wk} (h1 : ¬ (s.nl : Int) ≤ x.a) (h2 : x.b = 1 ∧ (c.locks.getD x.a.toNat lk0).kind ≠ 3) : enterW c s x v = 7 := by unfold enterW; rw [if_neg h1, if_pos h2]
theorem enterW_3 {c : Cfg} {s : CV} {x : Ins} {v : Wk} (h1 : ¬ (s.nl : Int) ≤ x.a) (h2 : ¬ (x.b = 1 ∧ (c.locks.getD x.a.toNat lk0).kind ≠ 3)) (h3 : 3 ≤ v.op.length) : enterW c s x v = 5 := by unfold enterW; rw [if_neg h1, if_neg h2, if_pos h3]
theorem enterW_4 {c : Cfg} {s : CV} {x : Ins} {v : Wk} (h1 : ¬ (s.nl : Int) ≤ x.a) (h2 : ¬ (x.b = 1 ∧ (c.locks.getD x.a.toNat lk0).kind ≠ 3)) (h3 : ¬ 3 ≤ v.op.length) (h4 : 0 < v.op.length ∧ (0 < v.lp ∨ x.a ≤ v.last)) : enterW c s x v = 8 := by unfold enterW; rw [if_neg h1, if_neg h2, if_neg h3, if_pos h4]
theorem enterW_5 {c : Cfg} {s : CV} {x : Ins} {v : Wk} (h1 : ¬ (s.nl : Int) ≤ x.a) (h2 : ¬ (x.b = 1 ∧ (c.locks.getD x.a.toNat lk0).kind ≠ 3)) (h3 : ¬ 3 ≤ v.op.length) (h4 : ¬ (0 < v.op.length ∧ (0 < v.lp ∨ x.a ≤ v.last))) : enterW c s x v = 0 := by unfold enterW; rw [if_neg h1, if_neg h2, if_neg h3, if_neg h4]

def enNext (v : Wk) (k : Nat) (a : Int) : Wk := ⟨v.op ++ [k], a, if v.op.length = 0 then 0 else v.lp⟩
/-- What an OEnter hands back: a code; the walk behind it, if it may stand there. -/
def EnRet (w : World) (q : Nat) (n : Nat) (v' : Wk) (W : World) (e : Ending) (w' : World) : Prop := e = .returned (.int .i64 (n : Int)) ∧ Below w.heap.size w w' ∧ (n = 0 → ∃ ov', WkBox w q v' ov' w')
theorem EnRet.bad {w : World} {q n m : Nat} {v' : Wk} {W w' : World} (h : n = m) (hm : m ≠ 0) (hb : Below w.heap.size w w') : EnRet w q n v' W (.returned (.int .i64 (m : Int))) w' := ⟨by rw [h], hb, fun h0 => absurd (h.symm.trans h0) hm⟩

set_option maxRecDepth 100000 in
set_option maxHeartbeats 4000000 in
theorem wenter_any (c : Cfg) (s : CV) (p : List Ins) (pa : Option Addr) (pc k : Nat) (x : Ins) (v : Wk) (ov : Value) (q : Nat) (w W : World) (hc : CfgIn w c s) (hp : InsRow w pa p.length p) (hk : k < p.length) (hx : p[k]? = some x) (h : WkBox w q v ov W) (ha : 0 ≤ x.a) (hp48 : p.length ≤ 48) (hvl : v.op.length ≤ 48) :
    Calls Tryz.prog 53 #[.pointer (some ⟨q, 0, none⟩), c.v s, .slice pa p.length pc, .int .i64 (k : Int)] W (EnRet w q (enterW c s x v) (enNext v k x.a) W) := by
  obtain ⟨b, off, rfl, hbl, hcell⟩ := hp.at (by omega)
  have hI := (hcell k x hx).keep ((bthen h.below (bnew (bid _) (.cells (c.cs s) 34))).block b hbl)
  have HS := hid (EnSt.new (c := c) (s := s) (x := x) h)
  have i0 : (0 : Int) ≤ (k : Int) := by omega
  have i1 : (k : Int) < ((p.length : Nat) : Int) := by omega
  have hcl := hc.locks
  have HL := hid hcl
  have hf := hc.fl
  have HH := hid h
  clear hcell hp h hc hcl
  obtain ⟨op, a, bb, ic, n⟩ := x
  obtain ⟨c0, c1, c2, c3, c4⟩ := hI
  dsimp only at c0 c1 c2 c3 c4 ha
  generalize p.length = np at hk i0 i1 hp48
  go_enter Tryz.func53, Tryz.ntmps53
  go_upto_region 2 with fail
  refine wp_rename (fun V => EnSt w W c s ⟨op, a, bb, ic, n⟩ q v ov V) HS.out ?_
  intro V hV
  have HV := hid hV
  clear hV HS c0 c1 c2 c3 c4 hbl
  obtain ⟨oa, oc, rfl⟩ := HV.out.wk.slice
  obtain ⟨⟨s0, s1, s2⟩, ⟨f0, f1, f2⟩⟩ := HV.out.wk.facts
  obtain ⟨x0, x1, x2⟩ := HV.out.ins.facts
  have k9 := cell_of_blk HV.out.cfg 9
  simp only [Cfg.cs, List.getElem?_toArray, List.getElem?_cons_zero, List.getElem?_cons_succ] at k9
  dsimp only at x0 x1 x2
  by_cases h1 : (s.nl : Int) ≤ a
  · have HE := hid (enterW_1 (c := c) (s := s) (x := ⟨op, a, bb, ic, n⟩) (v := v) h1)
    go_wp2
    go_ret
    exact EnRet.bad HE.out (by decide) HV.out.wk.below
  · have h1' : a < (s.nl : Int) := by omega
    obtain ⟨lb, loff, ha2, hbl, hcell⟩ := HL.out.at (by omega)
    have hla : a.toNat < c.locks.length := by rw [HL.out.cnt]; omega
    have hk := ((hcell a.toNat _ (List.getElem?_eq_getElem hla)).keep (HV.out.wk.below.block lb hbl)).c0
    have HK : Hid ((c.locks.getD a.toNat lk0).kind = c.locks[a.toNat].kind) := hid (by simp [List.getD, hla])
    rw [ha2] at k9
    generalize c.locks[a.toNat].kind = kd at hk HK
    clear hcell ha2
    by_cases hrd : bb = 1 ∧ kd ≠ 3
    · obtain ⟨h2, h3⟩ := hrd
      have HE := hid (enterW_2 (c := c) (s := s) (x := ⟨op, a, bb, ic, n⟩) (v := v) h1 ⟨h2, by rw [HK.out]; exact h3⟩)
      subst h2
      go_wp2
      go_ret
      exact EnRet.bad HE.out (by decide) HV.out.wk.below
    · have H2 : Hid (¬ (bb = 1 ∧ (c.locks.getD a.toNat lk0).kind ≠ 3)) := hid (by rw [HK.out]; exact hrd)
      have hch : ¬ bb = 1 ∨ (bb = 1 ∧ kd = 3) := by
        by_cases e : bb = 1
        · exact .inr ⟨e, Decidable.byContradiction fun h => hrd ⟨e, h⟩⟩
        · exact .inl e
      clear hrd
      have q3 : ¬ bb = 1 ∨ (bb = 1 ∧ (kd != 3) = false) := by
        rcases hch with h | ⟨h, rfl⟩
        · exact .inl h
        · exact .inr ⟨h, by decide⟩
      clear hch
      by_cases h3 : 3 ≤ v.op.length
      · have HE := hid (enterW_3 (c := c) (s := s) (x := ⟨op, a, bb, ic, n⟩) (v := v) h1 H2.out h3)
        have e3 : (3 : Int) ≤ ((v.op.length : Nat) : Int) := by omega
        rcases q3 with h | ⟨rfl, h⟩
        all_goals
          go_wp2
          go_ret
          exact EnRet.bad HE.out (by decide) HV.out.wk.below
      · have e3 : ¬ (3 : Int) ≤ ((v.op.length : Nat) : Int) := by omega
        by_cases h4 : 0 < v.op.length ∧ (0 < v.lp ∨ a ≤ v.last)
        · have HE := hid (enterW_4 (c := c) (s := s) (x := ⟨op, a, bb, ic, n⟩) (v := v) h1 H2.out h3 h4)
          obtain ⟨h5, h6⟩ := h4
          have e5 : (0 : Int) < ((v.op.length : Nat) : Int) := by omega
          have h7 : 0 < v.lp ∨ (¬ 0 < v.lp ∧ a ≤ v.last) := by
            by_cases h : 0 < v.lp
            · exact .inl h
            · exact .inr ⟨h, h6.resolve_left h⟩
          clear h6
          rcases q3 with h | ⟨rfl, h⟩
          all_goals
            rcases h7 with h7 | ⟨h7, h8⟩
            all_goals
              go_upto_region 8 with fail
              go_quiet (fail)
              go_wp2
              go_ret
              exact EnRet.bad HE.out (by decide) (bdrewN HV.out.wk.below)
        · have HE := hid (enterW_5 (c := c) (s := s) (x := ⟨op, a, bb, ic, n⟩) (v := v) h1 H2.out h3 h4)
          obtain ⟨iI, hi, hi0, hi1, hi2⟩ := info_parts infoWk
          have hw : (v.op.length = 0) ∨ (0 < v.op.length ∧ ¬ 0 < v.lp ∧ ¬ a ≤ v.last) := by
            by_cases h5 : v.op.length = 0
            · exact .inl h5
            · exact .inr ⟨by omega, fun h => h4 ⟨by omega, .inl h⟩, fun h => h4 ⟨by omega, .inr h⟩⟩
          have HKL := hid (show v.op.length < 3 by omega)
          have HM : Hid ((v.op.map fun j : Nat => (j : Int)) ++ [(k : Int)] = (v.op ++ [k]).map fun j : Nat => (j : Int)) := hid (by simp)
          have HE5 : Hid ((v.op.map fun j : Nat => (j : Int)).length ≤ 1000) := hid (by rw [List.length_map]; omega)
          have HLM2 : Hid (((v.op ++ [k]).map fun j : Nat => (j : Int)).length = v.op.length + 1) := hid (by simp)
          have HLM : Hid ((v.op.map fun j : Nat => (j : Int)).length = v.op.length) := hid (by simp)
          clear h4 h3 e3
          rcases hw with h5 | ⟨h5, h6, h7⟩
          · have HEN : Hid (enNext v k a = ⟨v.op ++ [k], a, 0⟩) := hid (by unfold enNext; rw [if_pos h5])
            rw [h5] at s0
            have HL0 := hid h5
            clear h5
            rcases q3 with h | ⟨rfl, h⟩
            all_goals
              go_upto_region 8 with fail
              go_quiet (fail)
              go_upto_region 12 with fail
              refine wp_rename (fun U => EnSt w W c s ⟨op, a, _, ic, n⟩ q ⟨v.op, v.last, 0⟩ (.slice oa v.op.length oc) U) (HV.out.put (v' := ⟨v.op, v.last, 0⟩) 2 _ _ (HV.out.wk.own) HV.out.wk.ne HV.out.ob rfl) ?_
              intro U hU
              have HU := hid hU
              clear hU s0 s1 s2 f0 f1 f2 x0 x1 x2 k9 hk HV
              obtain ⟨⟨s0, s1, s2⟩, ⟨f0, f1, f2⟩⟩ := HU.out.wk.facts
              dsimp only at s0 s1 s2
              have HBB := hid (show w.heap.size ≤ U.heap.size from HU.out.wk.below.size)
              go_upto_region 13 with (at_builtin; go_must (refine wpList_append_int1 rfl (.tmp 74) (.tmp 76) 31 rfl Tryz.underlying31 hi hi0 hi1 hi2 rfl HU.out.wk.own _ rfl HE5.out HBB.out ?_; intro v' w' hown hat hwr; rw [HM.out] at hown; obtain ⟨na, nc2, rfl, -⟩ := hown.shape; rw [HLM2.out] at hown hat ⊢; obtain ⟨g1, g2, g3, g4⟩ := HU.out.grown hwr; have HO := hid hown; have HAT := hid hat; have HG1 := hid g1; have HG2 := hid g2; have HG3 := hid g3; have HG4 := hid g4; have t0 := cell_of_blk g3 0; have u0 := frozen_of_blk g3 0; simp only [List.getElem?_toArray, List.getElem?_cons_zero, List.getElem?_cons_succ] at t0; clear hown hat hwr g1 g2 g3 g4))
              refine wp_rename (fun Y => (∃ b', InsBox Y (W.heap.size + 1) ⟨op, a, b', ic, n⟩) ∧ WkBox w q ⟨v.op ++ [k], v.last, 0⟩ (.slice na (v.op.length + 1) nc2) Y) ((fun (hz : InsBox _ _ _ ∧ _) => ⟨⟨_, hz.1⟩, hz.2⟩) (enter_stored HG2.out HG3.out HG4.out HO.out HAT.out HU.out.low HU.out.wk.q0 HU.out.ob (Nat.le_trans (Nat.le_of_lt (Nat.lt_of_le_of_lt (Nat.le_succ _) (lt_of_block HU.out.ins))) (Nat.le_refl _)) HU.out.wk.ne)) ?_
              rintro Y ⟨⟨b', hy1⟩, hy2⟩
              have HY := hid hy2
              obtain ⟨x0, x1, x2⟩ := hy1.facts
              clear s0 s1 s2 f0 f1 f2 t0 u0
              obtain ⟨⟨s0, s1, s2⟩, ⟨f0, f1, f2⟩⟩ := hy2.facts
              dsimp only at x0 x1 x2 s0 s1 s2
              clear hy1 hy2
              go_wp2
              go_ret
              exact ⟨by rw [HE.out]; rfl, HY.out.below.setCell HY.out.q0 _, fun _ => ⟨_, by rw [HEN.out]; exact HY.out.put 1 _ HY.out.own HY.out.ne rfl⟩⟩
          · have e5 : (0 : Int) < ((v.op.length : Nat) : Int) := by omega
            have e6 : ¬ ((v.op.length : Nat) : Int) = 0 := by omega
            have e3 : ¬ (3 : Int) ≤ ((v.op.length : Nat) : Int) := by have := HKL.out; omega
            have HEN : Hid (enNext v k a = ⟨v.op ++ [k], a, v.lp⟩) := hid (by unfold enNext; rw [if_neg (by omega)])
            rcases q3 with h | ⟨rfl, h⟩
            all_goals
              go_upto_region 8 with fail
              go_quiet (fail)
              go_upto_region 12 with fail
              refine wp_rename (fun U => EnSt w W c s ⟨op, a, _, ic, n⟩ q ⟨v.op, v.last, v.lp⟩ (.slice oa v.op.length oc) U) (HV.out.drew _) ?_
              intro U hU
              have HU := hid hU
              clear hU s0 s1 s2 f0 f1 f2 x0 x1 x2 k9 hk HV
              obtain ⟨⟨s0, s1, s2⟩, ⟨f0, f1, f2⟩⟩ := HU.out.wk.facts
              dsimp only at s0 s1 s2
              have HBB := hid (show w.heap.size ≤ U.heap.size from HU.out.wk.below.size)
              go_upto_region 13 with (at_builtin; go_must (refine wpList_append_int1 rfl (.tmp 74) (.tmp 76) 31 rfl Tryz.underlying31 hi hi0 hi1 hi2 rfl HU.out.wk.own _ rfl HE5.out HBB.out ?_; intro v' w' hown hat hwr; rw [HM.out] at hown; obtain ⟨na, nc2, rfl, -⟩ := hown.shape; rw [HLM2.out] at hown hat ⊢; obtain ⟨g1, g2, g3, g4⟩ := HU.out.grown hwr; have HO := hid hown; have HAT := hid hat; have HG1 := hid g1; have HG2 := hid g2; have HG3 := hid g3; have HG4 := hid g4; have t0 := cell_of_blk g3 0; have u0 := frozen_of_blk g3 0; simp only [List.getElem?_toArray, List.getElem?_cons_zero, List.getElem?_cons_succ] at t0; clear hown hat hwr g1 g2 g3 g4))
              refine wp_rename (fun Y => (∃ b', InsBox Y (W.heap.size + 1) ⟨op, a, b', ic, n⟩) ∧ WkBox w q ⟨v.op ++ [k], v.last, v.lp⟩ (.slice na (v.op.length + 1) nc2) Y) ((fun (hz : InsBox _ _ _ ∧ _) => ⟨⟨_, hz.1⟩, hz.2⟩) (enter_stored HG2.out HG3.out HG4.out HO.out HAT.out HU.out.low HU.out.wk.q0 HU.out.ob (Nat.le_trans (Nat.le_of_lt (Nat.lt_of_le_of_lt (Nat.le_succ _) (lt_of_block HU.out.ins))) (Nat.le_refl _)) HU.out.wk.ne)) ?_
              rintro Y ⟨⟨b', hy1⟩, hy2⟩
              have HY := hid hy2
              obtain ⟨x0, x1, x2⟩ := hy1.facts
              clear s0 s1 s2 f0 f1 f2 t0 u0
              obtain ⟨⟨s0, s1, s2⟩, ⟨f0, f1, f2⟩⟩ := hy2.facts
              dsimp only at x0 x1 x2 s0 s1 s2
              clear hy1 hy2
              go_wp2
              go_ret
              exact ⟨by rw [HE.out]; rfl, HY.out.below.setCell HY.out.q0 _, fun _ => ⟨_, by rw [HEN.out]; exact HY.out.put 1 _ HY.out.own HY.out.ne rfl⟩⟩

end Go.Proofs.YtblalejegjieaaaGreatDoor

namespace Go.Proofs.YtblalejegjieaaaGreatDoor
open Go.RowKit
set_option linter.unusedVariables false

structure RsSt (W0 : World) (c : Cfg) (s : CV) (x : Ins) (W : World) : Prop where
  cfg : CfgBox W W0.heap.size c s
  ins : InsBox W (W0.heap.size + 1) x
  below : Below W0.heap.size W0 W
theorem RsSt.later {W0 W W' : World} {c : Cfg} {s : CV} {x : Ins} (h : RsSt W0 c s x W) (hb : Below W.heap.size W W') : RsSt W0 c s x W' :=
  ⟨h.cfg.below hb, h.ins.below hb, bthen h.below hb⟩
theorem RsSt.new (W0 : World) (c : Cfg) (s : CV) (x : Ins) : RsSt W0 c s x ((W0.alloc (.cells (c.cs s) 34)).alloc (.cells #[.int .i64 x.op, .int .i64 x.a, .int .i64 x.b, .int .i64 x.c, .int .i64 x.n] 40)) :=
  ⟨(CfgBox.new W0 c s).below (bnew (bid _) _), by
    have := heap_alloc_new (W0.alloc (.cells (c.cs s) 34)) (.cells #[.int .i64 x.op, .int .i64 x.a, .int .i64 x.b, .int .i64 x.c, .int .i64 x.n] 40)
    rw [size_alloc1] at this
    exact this, bnew (bnew (bid _) _) _⟩
def RsRet (n : Nat) (W : World) (e : Ending) (w' : World) : Prop := e = .returned (.int .i64 (n : Int)) ∧ Below W.heap.size W w'
theorem RsRet.mk' {n m : Nat} {W w' : World} (h : n = m) (hb : Below W.heap.size W w') : RsRet n W (.returned (.int .i64 (m : Int))) w' := ⟨by rw [h], hb⟩
theorem hitB_yes {c : Cfg} {s : CV} {p : List Ins} {x : Ins} {j : Nat} (h0 : 0 ≤ x.a) (h1 : x.a < (s.nc : Int)) (h2 : (p.getD j ins0).a = c.conds.getD x.a.toNat 0) : hitB c s p x j = true := decide_eq_true ⟨h0, h1, h2⟩
theorem hitB_no1 {c : Cfg} {s : CV} {p : List Ins} {x : Ins} {j : Nat} (h1 : ¬ x.a < (s.nc : Int)) : hitB c s p x j = false := decide_eq_false fun h => h1 h.2.1
theorem hitB_no2 {c : Cfg} {s : CV} {p : List Ins} {x : Ins} {j : Nat} (h2 : ¬ (p.getD j ins0).a = c.conds.getD x.a.toNat 0) : hitB c s p x j = false := decide_eq_false fun h => h2 h.2.2
theorem mineW_cons (c : Cfg) (s : CV) (p : List Ins) (x : Ins) (j : Nat) (r : List Nat) (m : Int) : mineW c s p x (j :: r) m = mineW c s p x r (if hitB c s p x j = true then (p.getD j ins0).b else m) := rfl
theorem writesW_cons (p : List Ins) (j : Nat) (r : List Nat) (b : Bool) : writesW p (j :: r) b = writesW p r (b || ((p.getD j ins0).b == 0)) := rfl

def restX (nc : Nat) (op a : Int) (len : Nat) (bv : Bool) (mv : Int) : Nat :=
  if op = 9 then (if 0 < len ∧ bv = false then 7 else 0)
  else if op = 10 ∨ op = 11 then (if bv = false then 7 else 0)
  else if op = 15 ∨ op = 16 ∨ op = 17 then (if (nc : Int) ≤ a then 9 else if mv < 0 ∨ (op = 15 ∧ len ≠ 1) then 6 else if mv = 1 then 7 else 0)
  else 0
theorem restW_X {c : Cfg} {s : CV} {p : List Ins} {x : Ins} {v : Wk} {bv : Bool} {mv : Int} (h1 : writesW p v.op false = bv) (h2 : mineW c s p x v.op (-1) = mv) : restW c s p x v = restX s.nc x.op x.a v.op.length bv mv := by
  unfold restW restX
  rw [h1, h2]

set_option maxRecDepth 100000 in
set_option maxHeartbeats 8000000 in
theorem wrest_any (c : Cfg) (s : CV) (p : List Ins) (pa : Option Addr) (pc k : Nat) (x : Ins) (v : Wk) (ov : Value) (q : Nat) (w W : World) (hc : CfgIn w c s) (hp : InsRow w pa p.length p) (hk : k < p.length) (hx : p[k]? = some x) (h : WkBox w q v ov W) (ha : 0 ≤ x.a) (hp48 : p.length ≤ 48) (hvl : v.op.length ≤ 48) (hlt : ∀ j ∈ v.op, j < p.length) :
    Calls Tryz.prog 54 #[.pointer (some ⟨q, 0, none⟩), c.v s, .slice pa p.length pc, .int .i64 (k : Int)] W (RsRet (restW c s p x v) W) := by
  obtain ⟨b, off, rfl, hbl, hcell⟩ := hp.at (by omega)
  have hI := (hcell k x hx).keep ((bthen h.below (bnew (bid _) (.cells (c.cs s) 34))).block b hbl)
  have HPC := hid (fun (U : World) (hU : Below W.heap.size W U) (j : Nat) (e : Ins) (he : p[j]? = some e) => (hcell j e he).keep ((bthen h.below hU).block b hbl))
  have HS := hid (RsSt.new W c s x)
  have i0 : (0 : Int) ≤ (k : Int) := by omega
  have i1 : (k : Int) < ((p.length : Nat) : Int) := by omega
  have HCN := hid (fun (U : World) (hU : Below W.heap.size W U) => hc.conds.below (bthen h.below hU))
  obtain ⟨oa, oc, rfl⟩ := h.slice
  have HSH := hid (show IntRow W oa v.op.length (v.op.map fun j : Nat => (j : Int)) from by
    obtain ⟨a', c', e1, e2, _⟩ := h.own.shape
    simp only [Value.slice.injEq] at e1
    obtain ⟨rfl, e3, _⟩ := e1
    rw [List.length_map] at e2
    exact e2)
  have HWF := hid (fun (U : World) (hU : Below W.heap.size W U) => (h.later hU).facts)
  have HLT := hid hlt
  have HNC := hid hc.fc
  have HWR : Hid (writesW p v.op false = writesW p v.op false) := hid rfl
  have HR := hid (show restW c s p x v = restW c s p x v from rfl)
  clear hcell hp h hc hlt
  have HX := hid hx
  obtain ⟨op, a, bb, ic, n⟩ := x
  obtain ⟨c0, c1, c2, c3, c4⟩ := hI
  dsimp only at c0 c1 c2 c3 c4 ha
  have HPL := hid (show p.length = p.length from rfl)
  generalize hnp : p.length = np at hk i0 i1 hp48 HLT
  go_enter Tryz.func54, Tryz.ntmps54
  go_upto_region 2 with fail
  refine wp_rename (fun V => RsSt W c s ⟨op, a, bb, ic, n⟩ V) HS.out ?_
  intro V hV
  have HV := hid hV
  clear hV HS c0 c1 c2 c3 c4 hbl
  obtain ⟨⟨s0, s1, s2⟩, ⟨f0, f1, f2⟩⟩ := HWF.out _ HV.out.below
  obtain ⟨x0, x1, x2⟩ := HV.out.ins.facts
  dsimp only at x0 x1 x2
  have HLEN1 : Hid ((((v.op.length : Nat) : Int) == 1) = decide (v.op.length = 1)) := hid (by rw [Bool.eq_iff_iff]; simp; omega)
  go_quiet (fail)
  go_upto_region 3 with fail
  go_wp2_with fail
  clear s0 s1 s2 f0 f1 f2 x0 x1 x2
  go_loopw [13, 10, 11] (fun i wb m wr => ∃ (j : Nat) (bv : Bool) (mv : Int), j ≤ v.op.length ∧ i = .int .i64 j ∧ wb = .bool bv ∧ m = .int .i64 mv ∧ writesW p v.op false = writesW p (v.op.drop j) bv ∧ mineW c s p ⟨op, a, bb, ic, n⟩ v.op (-1) = mineW c s p ⟨op, a, bb, ic, n⟩ (v.op.drop j) mv ∧ RsSt W c s ⟨op, a, bb, ic, n⟩ wr) (fun i _ _ _ => v.op.length - (intOf i).toNat)
  case atStart => exact ⟨0, false, -1, Nat.zero_le _, rfl, rfl, rfl, rfl, rfl, HV.out.later (bdrewN (bid _))⟩
  case round =>
    obtain ⟨j, bv, mv, hj, rfl, rfl, rfl, hw, hm, hst⟩ := hrel
    have HW := hid hw
    have HM := hid hm
    have HST := hid hst
    obtain ⟨⟨s0, s1, s2⟩, ⟨f0, f1, f2⟩⟩ := HWF.out _ HST.out.below
    obtain ⟨x0, x1, x2⟩ := HST.out.ins.facts
    have k10 := cell_of_blk HST.out.cfg 10
    simp only [Cfg.cs, List.getElem?_toArray, List.getElem?_cons_zero, List.getElem?_cons_succ] at k10
    dsimp only at x0 x1 x2
    clear hw hm hst HV f0 f1 f2 s1 s2
    by_cases hlt : j < v.op.length
    · have hjn := HLT.out v.op[j] (List.getElem_mem hlt)
      have hdr := List.drop_eq_getElem_cons hlt
      obtain ⟨ob, ooff, hoa, hobl, hocell⟩ := HSH.out.at (by omega)
      subst hoa
      have o0 := ((HST.out.below.cell (p := ⟨ob, ooff + j, none⟩) hobl).trans (hocell j hlt))
      have oz : (v.op.map fun j : Nat => (j : Int)).getD j 0 = ((v.op[j] : Nat) : Int) := by simp [hlt]
      rw [oz] at o0
      generalize v.op[j] = vj at hjn hdr o0
      have hex : p[vj]? = some (p.getD vj ins0) := by simp [List.getD, List.getElem?_eq_getElem (show vj < p.length by omega)]
      have hei := HPC.out _ HST.out.below vj _ hex
      rw [hdr, writesW_cons] at HW
      rw [hdr, mineW_cons] at HM
      have HH1 := hid (fun h1 h2 => hitB_yes (c := c) (s := s) (p := p) (x := ⟨op, a, bb, ic, n⟩) (j := vj) ha h1 h2)
      have HH2 := hid (fun h1 => hitB_no1 (c := c) (s := s) (p := p) (x := ⟨op, a, bb, ic, n⟩) (j := vj) h1)
      have HH3 := hid (fun h1 => hitB_no2 (c := c) (s := s) (p := p) (x := ⟨op, a, bb, ic, n⟩) (j := vj) h1)
      dsimp only at HH1 HH2 HH3
      generalize hitB c s p ⟨op, a, bb, ic, n⟩ vj = hb at HM HH1 HH2 HH3
      generalize p.getD vj ins0 = e at hei HW HM HH1 HH3
      obtain ⟨eo, ea, eb, ec, en⟩ := e
      obtain ⟨e0, e1, e2, e3, e4⟩ := hei
      dsimp only at e0 e1 e2 e3 e4 HW HM HH1 HH3
      have j0 : (0 : Int) ≤ (j : Int) := by omega
      have j1 : (j : Int) < ((v.op.length : Nat) : Int) := by omega
      have v0 : (0 : Int) ≤ (vj : Int) := by omega
      have v1 : (vj : Int) < ((np : Nat) : Int) := by omega
      clear hocell oz hex hdr
      go_upto_region 7 with fail
      refine wp_rename (fun U => InsBox U wr.heap.size ⟨eo, ea, eb, ec, en⟩ ∧ Below wr.heap.size wr U) ⟨heap_alloc_new wr _, bnew (bid _) _⟩ ?_
      generalize hgs : wr.heap.size = ge
      rintro U ⟨hu1, hu2⟩
      rw [← hgs] at hu2
      have HU := hid hu2
      have HST2 := hid (HST.out.later hu2)
      have HE1 := hid hu1
      clear x0 x1 x2 k10 s0 e0 e1 e2 e3 e4 o0 hu2 hgs
      obtain ⟨y0, y1, y2⟩ := hu1.facts
      obtain ⟨x0, x1, x2⟩ := HST2.out.ins.facts
      have k10 := cell_of_blk HST2.out.cfg 10
      simp only [Cfg.cs, List.getElem?_toArray, List.getElem?_cons_zero, List.getElem?_cons_succ] at k10
      dsimp only at x0 x1 x2 y0 y1 y2
      clear hu1
      have HBV : Hid (∃ bw : Bool, (bv || (eb == 0)) = bw ∧ (bv = true ∧ bw = true ∨ bv = false ∧ bw = (eb == 0))) := hid ⟨_, rfl, by cases bv; exact .inr ⟨rfl, rfl⟩; exact .inl ⟨rfl, rfl⟩⟩
      obtain ⟨bw, hbw, hbv⟩ := HBV.out
      rw [hbw] at HW
      have HRL := hid (fun (mw : Int) (hmw : (if hb = true then eb else mv) = mw) (nq : Nat) => (⟨j + 1, bw, mw, by omega, by go_num, rfl, rfl, HW.out, hmw ▸ HM.out, HST2.out.later (bdrewN (bid U))⟩ : ∃ (j2 : Nat) (bv : Bool) (mv : Int), j2 ≤ v.op.length ∧ (Value.int .i64 ((j : Int) + 1)) = .int .i64 j2 ∧ Value.bool bw = .bool bv ∧ Value.int .i64 mw = .int .i64 mv ∧ writesW p v.op false = writesW p (v.op.drop j2) bv ∧ mineW c s p ⟨op, a, bb, ic, n⟩ v.op (-1) = mineW c s p ⟨op, a, bb, ic, n⟩ (v.op.drop j2) mv ∧ RsSt W c s ⟨op, a, bb, ic, n⟩ (U.drewN nq)))
      clear HBV hbw HW HM
      by_cases h1 : a < (s.nc : Int)
      · obtain ⟨cb, coff, hca, hcbl, hccell⟩ := (HCN.out U HST2.out.below).at (by omega)
        have hc1 := hccell a.toNat (by omega)
        rw [hca] at k10
        clear hccell hca
        generalize c.conds.getD a.toNat 0 = cv at hc1 HH1 HH3
        by_cases h2 : ea = cv
        · have hz := HH1.out h1 h2
          subst hz
          have HRL2 := hid (HRL.out eb (if_pos rfl))
          subst h2
          clear HH1 HH2 HH3 HRL
          have hnc : s.nc ≤ 1000000 := HNC.out
          rcases hbv with ⟨rfl, rfl⟩ | ⟨rfl, rfl⟩
          all_goals
            go_upto_region 8 with fail
            go_quiet (fail)
            go_wp2
            go_roundw
            case rel => exact HRL2.out _
            case measure => simp [intOf]; omega
        · have hz := HH3.out h2
          subst hz
          have HRL2 := hid (HRL.out mv (if_neg (by decide)))
          have h2' : (ea == cv) = false := by rw [beq_eq_false_iff_ne]; exact h2
          clear HH1 HH2 HH3 HRL
          have hnc : s.nc ≤ 1000000 := HNC.out
          rcases hbv with ⟨rfl, rfl⟩ | ⟨rfl, rfl⟩
          all_goals
            go_upto_region 8 with fail
            go_quiet (fail)
            go_wp2
            go_roundw
            case rel => exact HRL2.out _
            case measure => simp [intOf]; omega
      · have hz := HH2.out h1
        subst hz
        have HRL2 := hid (HRL.out mv (if_neg (by decide)))
        clear HH1 HH2 HH3 HRL
        rcases hbv with ⟨rfl, rfl⟩ | ⟨rfl, rfl⟩
        all_goals
          go_upto_region 8 with fail
          go_quiet (fail)
          go_wp2
          go_roundw
          case rel => exact HRL2.out _
          case measure => simp [intOf]; omega
    · obtain rfl : j = v.op.length := by omega
      have HX2 := hid (restW_X (c := c) (s := s) (p := p) (x := ⟨op, a, bb, ic, n⟩) (v := v) (HW.out.trans (by rw [List.drop_length])) (HM.out.trans (by rw [List.drop_length])))
      dsimp only at HX2
      have HRT := hid (fun (m : Nat) (hm : restX s.nc op a v.op.length bv mv = m) => RsRet.mk' (n := restW c s p ⟨op, a, bb, ic, n⟩ v) (HX2.out.trans hm) HST.out.below)
      clear HW HM HX2 hlt
      have l0 : (0 : Int) ≤ ((v.op.length : Nat) : Int) := by omega
      by_cases q9 : op = 9
      · subst q9
        by_cases h1 : 0 < v.op.length
        · have e1 : (0 : Int) < ((v.op.length : Nat) : Int) := by omega
          cases bv
          · have HA := hid (HRT.out 7 (by unfold restX; rw [if_pos rfl, if_pos ⟨h1, rfl⟩]))
            go_wp2
            go_ret
            exact HA.out
          · have HA := hid (HRT.out 0 (by unfold restX; rw [if_pos rfl, if_neg (fun h => by cases h.2)]))
            go_wp2
            go_ret
            exact HA.out
        · have e1 : ¬ (0 : Int) < ((v.op.length : Nat) : Int) := by omega
          have HA := hid (HRT.out 0 (by unfold restX; rw [if_pos rfl, if_neg (fun h => h1 h.1)]))
          go_wp2
          go_ret
          exact HA.out
      by_cases q10 : op = 10 ∨ op = 11
      · cases bv
        · have HA := hid (HRT.out 7 (by unfold restX; rw [if_neg q9, if_pos q10, if_pos rfl]))
          clear q9
          rcases q10 with rfl | rfl
          all_goals
            go_wp2
            go_ret
            exact HA.out
        · have HA := hid (HRT.out 0 (by unfold restX; rw [if_neg q9, if_pos q10, if_neg (by decide)]))
          clear q9
          rcases q10 with rfl | rfl
          all_goals
            go_wp2
            go_ret
            exact HA.out
      by_cases q15 : op = 15 ∨ op = 16 ∨ op = 17
      · by_cases h1 : (s.nc : Int) ≤ a
        · have HA := hid (HRT.out 9 (by unfold restX; rw [if_neg q9, if_neg q10, if_pos q15, if_pos h1]))
          clear q9 q10
          rcases q15 with rfl | rfl | rfl
          all_goals
            go_wp2
            go_ret
            exact HA.out
        by_cases h2 : mv < 0
        · have HA := hid (HRT.out 6 (by unfold restX; rw [if_neg q9, if_neg q10, if_pos q15, if_neg h1, if_pos (.inl h2)]))
          clear q9 q10
          rcases q15 with rfl | rfl | rfl
          all_goals
            go_wp2
            go_ret
            exact HA.out
        by_cases h3 : op = 15 ∧ v.op.length ≠ 1
        · have HA := hid (HRT.out 6 (by unfold restX; rw [if_neg q9, if_neg q10, if_pos q15, if_neg h1, if_pos (.inr h3)]))
          obtain ⟨rfl, h3⟩ := h3
          have e3 : (((v.op.length : Nat) : Int) == 1) = false := by rw [beq_eq_false_iff_ne]; omega
          clear q9 q10 q15 h3
          go_wp2
          go_ret
          exact HA.out
        have h3' : (op = 15 ∧ (((v.op.length : Nat) : Int) == 1) = true) ∨ op = 16 ∨ op = 17 := by
          rcases q15 with h | h
          · exact .inl ⟨h, by rw [beq_iff_eq]; have : v.op.length = 1 := Decidable.byContradiction fun e => h3 ⟨h, e⟩; omega⟩
          · exact .inr h
        by_cases h4 : mv = 1
        · have HA := hid (HRT.out 7 (by unfold restX; rw [if_neg q9, if_neg q10, if_pos q15, if_neg h1, if_neg (fun h => h.elim h2 h3), if_pos h4]))
          subst h4
          clear q9 q10 q15 h3
          rcases h3' with ⟨rfl, e3⟩ | rfl | rfl
          all_goals
            go_wp2
            go_ret
            exact HA.out
        · have HA := hid (HRT.out 0 (by unfold restX; rw [if_neg q9, if_neg q10, if_pos q15, if_neg h1, if_neg (fun h => h.elim h2 h3), if_neg h4]))
          clear q9 q10 q15 h3
          rcases h3' with ⟨rfl, e3⟩ | rfl | rfl
          all_goals
            go_wp2
            go_ret
            exact HA.out
      · have HA := hid (HRT.out 0 (by unfold restX; rw [if_neg q9, if_neg q10, if_neg q15]))
        have z10 : ¬ op = 10 := fun e => q10 (.inl e)
        have z11 : ¬ op = 11 := fun e => q10 (.inr e)
        have z15 : ¬ op = 15 := fun e => q15 (.inl e)
        have z16 : ¬ op = 16 := fun e => q15 (.inr (.inl e))
        have z17 : ¬ op = 17 := fun e => q15 (.inr (.inr e))
        clear q10 q15
        go_wp2
        go_ret
        exact HA.out

end Go.Proofs.YtblalejegjieaaaGreatDoor

namespace Go.Proofs.YtblalejegjieaaaGreatDoor
open Go.RowKit
set_option linter.unusedVariables false

/-- The cases of a program's fault. -/
theorem prog_large {c : Cfg} {s : CV} {t : Nat} {p : List Ins} (hp : c.progs.getD t [] = p) (h : 48 < p.length) : progF c s t = some (4, some ((t : Int), -1)) := by
  unfold progF wrongF
  rw [hp, if_pos h]
  rfl
theorem prog_instr {c : Cfg} {s : CV} {t k : Nat} {p : List Ins} (hp : c.progs.getD t [] = p) (h : ¬ 48 < p.length) (hk : k < p.length) (h0 : ∀ j, j < k → mayB (p.getD j ins0) = true) (h1 : mayB (p.getD k ins0) = false) : progF c s t = some (1, some ((t : Int), (k : Int))) := by
  unfold progF wrongF
  rw [hp, if_neg h, firstF_at p.length 0 (t : Int) (fun k => instrF (p.getD k ins0)) k (1, none) (fun j _ hj => by unfold instrF; rw [if_pos (h0 j hj)]) (Nat.zero_le _) (by omega) (by unfold instrF; rw [h1]; rfl)]
  rfl
theorem prog_good {c : Cfg} {s : CV} {t : Nat} {p : List Ins} (hp : c.progs.getD t [] = p) (h : ¬ 48 < p.length) (h0 : ∀ j, j < p.length → mayB (p.getD j ins0) = true) :
    progF c s t = placeF (blocksF p (t : Int) (firstF p.length 0 (t : Int) (fun k => codeF (misF c s (p.getD k ins0) (aroundF p (matesOf (opsOf p)).1 k))))) (t : Int) (-1) := by
  unfold progF wrongF
  rw [hp, if_neg h, firstF_none p.length 0 (t : Int) (fun k => instrF (p.getD k ins0)) (fun j _ hj => by unfold instrF; rw [if_pos (h0 j (by omega))])]
  rfl
theorem prog_blocks {c : Cfg} {s : CV} {t : Nat} {p : List Ins} (hp : c.progs.getD t [] = p) (h : ¬ 48 < p.length) (h0 : ∀ j, j < p.length → mayB (p.getD j ins0) = true) (h1 : 0 ≤ (matesOf (opsOf p)).2) : progF c s t = some (5, some ((t : Int), (matesOf (opsOf p)).2)) := by
  rw [prog_good hp h h0]
  unfold blocksF
  rw [if_pos h1]
  rfl
theorem prog_mis {c : Cfg} {s : CV} {t k m : Nat} {p : List Ins} (hp : c.progs.getD t [] = p) (h : ¬ 48 < p.length) (h0 : ∀ j, j < p.length → mayB (p.getD j ins0) = true) (h1 : (matesOf (opsOf p)).2 < 0) (hk : k < p.length)
    (h2 : ∀ j, j < k → misF c s (p.getD j ins0) (aroundF p (matesOf (opsOf p)).1 j) = 0) (h3 : misF c s (p.getD k ins0) (aroundF p (matesOf (opsOf p)).1 k) = m) (hm : m ≠ 0) : progF c s t = some (m, some ((t : Int), (k : Int))) := by
  rw [prog_good hp h h0]
  unfold blocksF
  rw [if_neg (by omega), firstF_at p.length 0 (t : Int) _ k (m, none) (fun j _ hj => by rw [h2 j hj]; rfl) (Nat.zero_le _) (by omega) (by rw [h3]; unfold codeF; rw [if_neg hm])]
  rfl
theorem prog_none {c : Cfg} {s : CV} {t : Nat} {p : List Ins} (hp : c.progs.getD t [] = p) (h : ¬ 48 < p.length) (h0 : ∀ j, j < p.length → mayB (p.getD j ins0) = true) (h1 : (matesOf (opsOf p)).2 < 0)
    (h2 : ∀ j, j < p.length → misF c s (p.getD j ins0) (aroundF p (matesOf (opsOf p)).1 j) = 0) : progF c s t = none := by
  rw [prog_good hp h h0]
  unfold blocksF
  rw [if_neg (by omega), firstF_none p.length 0 (t : Int) _ (fun j _ hj => by rw [h2 j (by omega)]; rfl)]
  rfl

/-- Where an OLeave stands one is open. -/
theorem WAt.leave {p : List Ins} {S' : MSt} {k : Nat} {v : Wk} (h : WAt p S' k v) (hk : k < p.length) (h14 : (p.getD k ins0).op = 14) : v.op ≠ [] := by
  obtain ⟨S, hr, he, hv, hi⟩ := h.ex
  rw [show p.length - k = (p.length - (k + 1)) + 1 by omega, wrun] at hr
  obtain ⟨S1, hs, hr⟩ := Option.bind_eq_some_iff.1 hr
  have ho : (opsOf p).getD k 0 = 14 := by rw [opsOf_get]; exact h14
  cases WS.of hs with
  | inn hin _ => rw [ho] at hin; exact absurd hin (by decide)
  | oth _ hout _ => rw [ho] at hout; exact absurd hout (by decide)
  | out t fr la hout hop hf _ =>
    rw [ho] at hf
    have hla : (opsOf p).getD la 0 = 13 := by simpa [fitsB] using hf
    have hm : (fr, la) ∈ S.op := by rw [hop]; simp
    intro e
    have : fr ∈ v.op := hi.mem.2 ⟨la, hm, by
      rcases he.en _ hm with ⟨q, _⟩ | ⟨_, q, _⟩
      · dsimp only at q
        rw [← opsOf_get, q]
        exact hla
      · dsimp only at q; omega⟩
    rw [e] at this
    cases this
theorem WAt.lp {p : List Ins} {S' : MSt} {k : Nat} {v : Wk} (h : WAt p S' k v) (h0 : v.op ≠ []) : 0 ≤ v.lp ∧ v.lp ≤ (k : Int) := by
  obtain ⟨S, hr, he, hv, hi⟩ := h.ex
  cases hvo : v.op with
  | nil => exact absurd hvo h0
  | cons g r =>
    rw [hi.lp g r hvo]
    have : loopsN (opsOf p) g S.op ≤ S.op.length := Nat.le_trans (List.length_filter_le _ _) (List.length_filter_le _ _)
    have := hv.few
    omega

/-- The last OEnter gone. -/
theorem WkBox.pop {w W : World} {q : Nat} {v : Wk} {oa : Option Addr} {oc : Nat} (h : WkBox w q v (.slice oa v.op.length oc) W) (h0 : v.op ≠ []) : WkBox w q ⟨v.op.dropLast, v.last, v.lp⟩ (.slice oa (v.op.length - 1) oc) (W.setCell ⟨q, 0, none⟩ (.slice oa (v.op.length - 1) oc)) := by
  obtain ⟨vo, vl, vp⟩ := v
  dsimp only at h h0 ⊢
  rcases nil_or_snoc vo with e | ⟨l, j, hl⟩
  · exact absurd e h0
  subst hl
  have hr := h.own.row
  have hd : (l ++ [j]).dropLast = l := by simp
  have hn : (l ++ [j]).length - 1 = l.length := by simp
  rw [hd, hn]
  dsimp only at hr
  simp only [List.map_append, List.map_cons, List.map_nil, List.length_append, List.length_map, List.length_cons, List.length_nil] at hr
  rcases hr.2 with ⟨h1, h2⟩ | ⟨g, cap, cur, h1, h2⟩
  · omega
  · cases h1
    have hp := ownsRow_pop (xs := (l.map fun j : Nat => (j : Int)).map (Value.int .i64)) (last := [.int .i64 (j : Int)]) (n := l.length) (by simp) hr
    have ho : OwnInt 3 w.heap.size (.slice (some ⟨g, 0, none⟩) l.length oc) (l.map fun j : Nat => (j : Int)) W := ⟨by rw [List.length_map]; exact hp⟩
    exact h.put (v' := ⟨l, vl, vp⟩) 0 _ ho h.ne rfl

theorem wkNext_13 {x : Ins} {k : Nat} {v : Wk} (h : x.op = 13) : wkNext x k v = enNext v k x.a := by unfold wkNext enNext; rw [if_pos h]
theorem wkNext_14 {x : Ins} {k : Nat} {v : Wk} (h : x.op = 14) : wkNext x k v = ⟨v.op.dropLast, v.last, v.lp⟩ := by unfold wkNext; rw [if_neg (by omega), if_pos h]
theorem wkNext_21 {x : Ins} {k : Nat} {v : Wk} (h : x.op = 21) (h0 : 0 < v.op.length) : wkNext x k v = ⟨v.op, v.last, v.lp + 1⟩ := by unfold wkNext; rw [if_neg (by omega), if_neg (by omega), if_pos h, if_pos h0]
theorem wkNext_22 {x : Ins} {k : Nat} {v : Wk} (h : x.op = 22) (h0 : 0 < v.op.length) : wkNext x k v = ⟨v.op, v.last, v.lp - 1⟩ := by unfold wkNext; rw [if_neg (by omega), if_neg (by omega), if_neg (by omega), if_pos h, if_pos h0]
theorem wkNext_no {x : Ins} {k : Nat} {v : Wk} (h : x.op = 21 ∨ x.op = 22) (h0 : ¬ 0 < v.op.length) : wkNext x k v = v := by
  unfold wkNext
  rw [if_neg (by omega), if_neg (by omega), if_neg h0, if_neg h0]
  split
  · rfl
  · split <;> rfl
theorem wkNext_oth {x : Ins} {k : Nat} {v : Wk} (h1 : x.op ≠ 13) (h2 : x.op ≠ 14) (h3 : x.op ≠ 21) (h4 : x.op ≠ 22) : wkNext x k v = v := by unfold wkNext; rw [if_neg h1, if_neg h2, if_neg h3, if_neg h4]
theorem wkF_13 {c : Cfg} {s : CV} {p : List Ins} {x : Ins} {v : Wk} (h : x.op = 13) : wkF c s p x v = enterW c s x v := by unfold wkF; rw [if_pos h]
theorem wkF_no {c : Cfg} {s : CV} {p : List Ins} {x : Ins} {v : Wk} (h : x.op = 14 ∨ x.op = 21 ∨ x.op = 22) : wkF c s p x v = 0 := by unfold wkF; rw [if_neg (by omega), if_pos h]
theorem wkF_oth {c : Cfg} {s : CV} {p : List Ins} {x : Ins} {v : Wk} (h1 : x.op ≠ 13) (h2 : x.op ≠ 14) (h3 : x.op ≠ 21) (h4 : x.op ≠ 22) : wkF c s p x v = restW c s p x v := by unfold wkF; rw [if_neg h1, if_neg (by omega)]

/-- Where the loop stands. -/
structure PwAt (c : Cfg) (s : CV) (p : List Ins) (S' : MSt) (w : World) (q k : Nat) (W : World) : Prop where
  ex : ∃ v ov, WAt p S' k v ∧ WkBox w q v ov W
  le : k ≤ p.length
  ok : ∀ j, j < k → misF c s (p.getD j ins0) (aroundF p S'.ms j) = 0
theorem ans_hit {f : Flt} {t x : Nat} {p : Int} (h : f = some (x, some ((t : Int), p))) (hx : x ≠ 0) {w w' : World} (hb : Below w.heap.size w w') : ProgRet f (t : Int) w (.returned (.tuple #[.int .i64 (x : Int), .int .i64 p])) w' :=
  ⟨(x : Int), p, rfl, .inr ⟨x, p, h, rfl, rfl, hx⟩, hb⟩

set_option maxRecDepth 100000 in
set_option maxHeartbeats 8000000 in
theorem refProg_any (c : Cfg) (s : CV) (t : Nat) (w : World) (hc : CfgIn w c s) (ht : t < s.np) :
    Calls Tryz.prog 32 #[c.v s, .int .i64 (t : Int)] w (ProgRet (progF c s t) (t : Int) w) := by
  have HX := hid (CfgBox.new w c s)
  have HB0 := hid (bnew (bid w) (.cells (c.cs s) 34))
  have hnp := hc.fp
  obtain ⟨b, off, ap, cp, p, hae, hbl, hp, hcell, hl1, hl2, hrow⟩ := hc.progs.at ht
  have hpg : c.progs.getD t [] = p := by simp [List.getD, hp]
  have hc1 := (HB0.out.cell (p := ⟨b, off + t, none⟩) hbl).trans hcell
  have i0 : (0 : Int) ≤ (t : Int) := by omega
  have i1 : (t : Int) < ((s.np : Nat) : Int) := by omega
  have HC := hid hc
  have HROW := hid hrow
  have HLG := hid (fun h => prog_large (c := c) (s := s) hpg h)
  have HIN := hid (fun k h hk h0 h1 => prog_instr (c := c) (s := s) (k := k) hpg h hk h0 h1)
  have HBK := hid (fun h h0 h1 => prog_blocks (c := c) (s := s) hpg h h0 h1)
  have HMS := hid (fun k m h h0 h1 hk h2 h3 hm => prog_mis (c := c) (s := s) (k := k) (m := m) hpg h h0 h1 hk h2 h3 hm)
  have HNN := hid (fun h h0 h1 h2 => prog_none (c := c) (s := s) hpg h h0 h1 h2)
  generalize progF c s t = F at HLG HIN HBK HMS HNN
  obtain ⟨k0, k1, k2, k3, k4, k5, k6, k7, k8, k9, k10, k11⟩ := cfg_facts HX.out
  rw [hae] at k11
  unfold maxLen at hl2
  clear hae hp hcell hrow hc hpg hl1
  have np0 : (0 : Int) ≤ ((p.length : Nat) : Int) := by omega
  by_cases h48 : 48 < p.length
  · have e48 : (48 : Int) < ((p.length : Nat) : Int) := by omega
    have HA := hid (HLG.out h48)
    go_enter Tryz.func32, Tryz.ntmps32
    go_wp2
    exact bodyPost_ret (v := .tuple #[.int .i64 4, .int .i64 (-1)]) (by simp [results, Tryz.results32, go_sem]) rfl (ans_hit HA.out (by decide) HB0.out)
  have e48 : ¬ (48 : Int) < ((p.length : Nat) : Int) := by omega
  go_enter Tryz.func32, Tryz.ntmps32
  go_wp2_with fail
  clear k0 k1 k2 k3 k4 k5 k6 k7 k8 k9 k10 k11 hc1 i0 i1
  go_loopw [7] (fun i wr => ∃ k : Nat, k ≤ p.length ∧ i = .int .i64 k ∧ (∀ j, j < k → mayB (p.getD j ins0) = true) ∧ Below (w.alloc (.cells (c.cs s) 34)).heap.size (w.alloc (.cells (c.cs s) 34)) wr) (fun i _ => p.length - (intOf i).toNat)
  case atStart => exact ⟨0, Nat.zero_le _, rfl, fun j h => by omega, bid _⟩
  case round =>
    obtain ⟨k, hk, rfl, hmay, hb⟩ := hrel
    have HB := hid (bthen HB0.out hb)
    have HBx := hid hb
    have HMAY := hid hmay
    clear hb hmay
    by_cases hlt : k < p.length
    · obtain ⟨pb, poff, rfl, hpbl, hpc⟩ := HROW.out.at (by omega)
      have hx : p[k]? = some (p.getD k ins0) := by simp [List.getD, List.getElem?_eq_getElem hlt]
      have hI := (hpc k _ hx).keep (HB.out.block pb hpbl)
      have HMI := hid (fun W : World => MayInstr_any (p.getD k ins0) W)
      have HI1 := hid (fun h1 => HIN.out k h48 hlt HMAY.out h1)
      have HI2 := hid (fun (h1 : mayB (p.getD k ins0) = true) => (fun j (hj : j < k + 1) => if h : j < k then HMAY.out j h else (show j = k by omega) ▸ h1 : ∀ j, j < k + 1 → mayB (p.getD j ins0) = true))
      clear hpc hx
      have hxg : p.getD k ins0 = p.getD k ins0 := rfl
      generalize hxx : p.getD k ins0 = x at HMI hI HI1 HI2
      obtain ⟨xo, xa, xb, xc, xn⟩ := x
      obtain ⟨c0, c1, c2, c3, c4⟩ := hI
      dsimp only at c0 c1 c2 c3 c4
      have j0 : (0 : Int) ≤ (k : Int) := by omega
      have j1 : (k : Int) < ((p.length : Nat) : Int) := by omega
      generalize mayB ⟨xo, xa, xb, xc, xn⟩ = m at HMI HI1 HI2
      cases m
      · have HA := hid (HI1.out rfl)
        go_wp2_with (go_at_call 51; (with_reducible refine (HMI.out _).mono ?_); rintro e w3 ⟨rfl, hb3⟩; have HB3 := hid (bthen HB.out hb3); clear hb3)
        exact bodyPost_ret (v := .tuple #[.int .i64 1, .int .i64 (k : Int)]) (by simp [results, Tryz.results32, go_sem]) rfl (ans_hit HA.out (by decide) HB3.out)
      · have HA := hid (HI2.out rfl)
        go_wp2_with (go_at_call 51; (with_reducible refine (HMI.out _).mono ?_); rintro e w3 ⟨rfl, hb3⟩; have HB3 := hid (bthen HBx.out hb3); clear hb3)
        go_roundw
        case rel => exact ⟨k + 1, by omega, by go_num, HA.out, HB3.out⟩
        case measure => simp [intOf]; omega
    · obtain rfl : k = p.length := by omega
      have HM := hid (fun (W : World) (hW : Below w.heap.size w W) => (refMates_any ap p.length cp p W (HROW.out.below hW) (by omega)).mono fun e w' ⟨a, c, h1, _, _, h4⟩ => (⟨a, c, h1, h4⟩ : ∃ a c, e = Ending.returned (.tuple #[.slice a (matesOf (opsOf p)).1.length c, .int .i64 (matesOf (opsOf p)).2]) ∧ Below W.heap.size W w'))
      have HBK2 := hid (fun h1 => HBK.out h48 HMAY.out h1)
      have HMS2 := hid (fun k m h1 hk h2 h3 hm => HMS.out k m h48 HMAY.out h1 hk h2 h3 hm)
      have HNN2 := hid (fun h1 h2 => HNN.out h48 HMAY.out h1 h2)
      have HWF := hid (fun h => wrun_of (os := opsOf p) p.length 0 ⟨List.replicate p.length 0, []⟩ h)
      have HMO : Hid (mgo (opsOf p) p.length 0 ⟨List.replicate p.length 0, []⟩ = matesOf (opsOf p)) := hid (by unfold matesOf; simp [opsOf])
      rw [HMO.out] at HWF
      clear HLG HIN HBK HMS HNN HMO hlt
      generalize matesOf (opsOf p) = mt at HM HBK2 HMS2 HNN2 HWF
      obtain ⟨mm, mb⟩ := mt
      dsimp only at HBK2 HMS2 HNN2 HWF
      by_cases hmb : 0 ≤ mb
      · have HA := hid (HBK2.out hmb)
        go_wp2_with (go_at_call 52; (with_reducible refine (HM.out _ HB.out).mono ?_); rintro e w1 ⟨am, cm, rfl, hb1⟩; have HB1 := hid (bthen HB.out hb1); clear hb1)
        exact bodyPost_ret (v := .tuple #[.int .i64 5, .int .i64 mb]) (by simp [results, Tryz.results32, go_sem]) rfl (ans_hit HA.out (by decide) HB1.out)
      · obtain ⟨S', hS1, hS2, hS3⟩ := HWF.out (by omega)
        subst hS3
        have HW0 := hid (WAt.first hS1)
        have HS2 := hid hS2
        have hmb' : mb < 0 := by omega
        clear HBK2 HWF hS1 hS2
        go_upto_region 14 with (go_at_call 52; (with_reducible refine (HM.out _ HB.out).mono ?_); rintro e w1 ⟨am, cm, rfl, hb1⟩; have HB1 := hid (bthen HB.out hb1); have HB1x := hid (bthen HBx.out hb1); clear hb1)
        go_upto_region 15 with fail
        have HCI := hid (HC.out.below HB1.out)
        have HRI := hid (HROW.out.below HB1.out)
        have HCX := hid (HX.out.below HB1x.out)
        refine wp_rename (fun W => PwAt c s p S' w1 w1.heap.size 0 W) ⟨⟨⟨[], 0, 0⟩, .slice none 0 0, HW0.out, ⟨heap_alloc_new _ _, OwnInt.nil _ _ _, by simp [Value.ownBlock], Nat.le_refl _, bnew (bid _) _⟩⟩, Nat.zero_le _, fun j h => by omega⟩ ?_
        rintro W5 hpw
        generalize hqq : w1.heap.size = q at hpw ⊢
        have HPW := hid hpw
        clear hpw HB HBx HB1x HW0 HX HB0 HC HROW hqq
        go_wp2_with fail
        go_loopw [11] (fun i wr => ∃ k : Nat, i = .int .i64 k ∧ PwAt c s p S' w1 q k wr) (fun i _ => p.length - (intOf i).toNat)
        case atStart => exact ⟨0, rfl, HPW.out⟩
        case round =>
          clear HPW
          obtain ⟨k, rfl, hpw⟩ := hrel
          have HP := hid hpw
          clear hpw
          by_cases hlt : k < p.length
          · obtain ⟨v, ov, hwa, hwk⟩ := HP.out.ex
            have HWK := hid hwk
            have hb := hwk.below
            have HBW := hid (bthen HB1.out hb)
            obtain ⟨pb, poff, rfl, hpbl, hpc⟩ := HRI.out.at (by omega)
            have hx : p[k]? = some (p.getD k ins0) := by simp [List.getD, List.getElem?_eq_getElem hlt]
            have hI := (hpc k _ hx).keep (hb.block pb hpbl)
            have HXX := hid hx
            have HMAYX := hid (HMAY.out k hlt)
            have HMISX := hid (hwa.mis (c := c) (s := s) hlt HS2.out HMAY.out)
            have HMSX := hid (fun m h3 hm => HMS2.out k m hmb' hlt HP.out.ok h3 hm)
            have HNXT := hid (fun (h0 : misF c s (p.getD k ins0) (aroundF p S'.ms k) = 0) (ov' : Value) (W' : World) (hk : WkBox w1 q (wkNext (p.getD k ins0) k v) ov' W') => (⟨⟨_, ov', hwa.next (c := c) (s := s) hlt ((hwa.mis (c := c) (s := s) hlt HS2.out HMAY.out).trans h0), hk⟩, hlt, fun j hj => if h : j < k then HP.out.ok j h else (show j = k by omega) ▸ h0⟩ : PwAt c s p S' w1 q (k + 1) W'))
            have hlens := hwa.lens
            have HLV := hid (hwa.leave hlt)
            have HLP := hid hwa.lp
            have HLT := hid (fun j hj => Nat.lt_trans (hlens.2 j hj) hlt)
            generalize misF c s (p.getD k ins0) (aroundF p S'.ms k) = mv at HMISX HMSX HNXT
            clear hpc hx hwa hwk
            generalize p.getD k ins0 = x at hI HXX HMAYX HMISX HNXT HLV
            obtain ⟨xo, xa, xb, xc, xn⟩ := x
            obtain ⟨c0, c1, c2, c3, c4⟩ := hI
            dsimp only at c0 c1 c2 c3 c4
            have j0 : (0 : Int) ≤ (k : Int) := by omega
            have j1 : (k : Int) < ((p.length : Nat) : Int) := by omega
            have hxa : 0 ≤ xa := (mayB_in HMAYX.out).2.1.1
            obtain ⟨k0, k1, k2, k3, k4, k5, k6, k7, k8, k9, k10, k11⟩ := cfg_facts (HCX.out.below hb)
            clear hb
            by_cases q13 : xo = 13
            · subst q13
              rw [wkF_13 rfl] at HMISX
              rw [wkNext_13 rfl] at HNXT
              have HEN := hid (wenter_any c s p (some ⟨pb, poff, none⟩) cp k ⟨13, xa, xb, xc, xn⟩ v ov q w1 wr HCI.out HRI.out hlt HXX.out HWK.out hxa (by omega) (by omega))
              rw [HMISX.out] at HEN
              go_upto_region 31 with (go_at_call 53; go_must (refine HEN.out.mono ?_; rintro e w3 ⟨rfl, hb3, hk3⟩; have HB3 := hid (bthen HB1.out hb3); have HK3 := hid hk3; clear hb3 hk3))
              by_cases hz : mv = 0
              · obtain ⟨ov', hk'⟩ := HK3.out hz
                have HQ := hid (HNXT.out hz ov' w3 hk')
                subst hz
                clear hk'
                go_wp2
                go_roundw
                case rel => exact ⟨k + 1, by go_num, HQ.out⟩
                case measure => simp [intOf]; omega
              · have HA := hid (HMSX.out mv rfl hz)
                have ez : ¬ (mv : Int) = 0 := by omega
                go_wp2
                exact bodyPost_ret (v := .tuple #[.int .i64 (mv : Int), .int .i64 (k : Int)]) (by simp [results, Tryz.results32, go_sem]) rfl (ans_hit HA.out hz HB3.out)
            by_cases q14 : xo = 14
            · have hne := HLV.out q14
              subst q14
              rw [wkF_no (.inl rfl)] at HMISX
              rw [wkNext_14 rfl] at HNXT
              obtain ⟨oa, oc, rfl⟩ := HWK.out.slice
              obtain ⟨⟨s0, s1, s2⟩, ⟨f0, f1, f2⟩⟩ := HWK.out.facts
              have hl0 : 0 < v.op.length := List.length_pos_iff.2 hne
              obtain ⟨g, hg, hoc, hom⟩ : ∃ g, oa = some ⟨g, 0, none⟩ ∧ v.op.length ≤ oc ∧ oc ≤ maxLen := by
                obtain ⟨a', c', e1, e2, _, e4, e5⟩ := HWK.out.own.shape
                obtain ⟨g, cap, e6, _⟩ := HWK.out.own.row.form (by rw [List.length_map]; omega)
                simp only [Value.slice.injEq, List.length_map] at e1 e6
                obtain ⟨rfl, _, rfl⟩ := e1
                rw [List.length_map] at e4
                exact ⟨g, e6.1, e4, e5⟩
              subst hg
              unfold maxLen at hom
              have HQ := hid (HNXT.out HMISX.out.symm _ _ (HWK.out.pop hne))
              obtain ⟨m, hm⟩ : ∃ m, v.op.length = m + 1 := ⟨v.op.length - 1, by omega⟩
              rw [hm] at hoc s0 HQ
              rw [Nat.add_sub_cancel] at HQ
              have hm48 : m ≤ 48 := by omega
              clear hl0 hne
              go_wp2
              go_roundw
              case rel => exact ⟨k + 1, by go_num, HQ.out⟩
              case measure => simp [intOf]; omega
            by_cases q21 : xo = 21
            · subst q21
              rw [wkF_no (.inr (.inl rfl))] at HMISX
              obtain ⟨oa, oc, rfl⟩ := HWK.out.slice
              obtain ⟨⟨s0, s1, s2⟩, ⟨f0, f1, f2⟩⟩ := HWK.out.facts
              by_cases hl0 : 0 < v.op.length
              · have e0 : (0 : Int) < ((v.op.length : Nat) : Int) := by omega
                have hlp := HLP.out (List.length_pos_iff.1 hl0)
                rw [wkNext_21 rfl hl0] at HNXT
                have HQ := hid (HNXT.out HMISX.out.symm _ _ (HWK.out.put (v' := ⟨v.op, v.last, v.lp + 1⟩) 2 (.int .i64 (v.lp + 1)) HWK.out.own HWK.out.ne rfl))
                have HW64 := hid (i64_of (x := v.lp + 1) (by omega) (by omega))
                go_wp2
                go_roundw
                case rel => exact ⟨k + 1, by go_num, HQ.out⟩
                case measure => simp [intOf]; omega
              · have e0 : ¬ (0 : Int) < ((v.op.length : Nat) : Int) := by omega
                rw [wkNext_no (.inl rfl) hl0] at HNXT
                have HQ := hid (HNXT.out HMISX.out.symm _ _ HWK.out)
                go_wp2
                go_roundw
                case rel => exact ⟨k + 1, by go_num, HQ.out⟩
                case measure => simp [intOf]; omega
            by_cases q22 : xo = 22
            · subst q22
              rw [wkF_no (.inr (.inr rfl))] at HMISX
              obtain ⟨oa, oc, rfl⟩ := HWK.out.slice
              obtain ⟨⟨s0, s1, s2⟩, ⟨f0, f1, f2⟩⟩ := HWK.out.facts
              by_cases hl0 : 0 < v.op.length
              · have e0 : (0 : Int) < ((v.op.length : Nat) : Int) := by omega
                have hlp := HLP.out (List.length_pos_iff.1 hl0)
                rw [wkNext_22 rfl hl0] at HNXT
                have HQ := hid (HNXT.out HMISX.out.symm _ _ (HWK.out.put (v' := ⟨v.op, v.last, v.lp - 1⟩) 2 (.int .i64 (v.lp - 1)) HWK.out.own HWK.out.ne rfl))
                go_wp2
                go_roundw
                case rel => exact ⟨k + 1, by go_num, HQ.out⟩
                case measure => simp [intOf]; omega
              · have e0 : ¬ (0 : Int) < ((v.op.length : Nat) : Int) := by omega
                rw [wkNext_no (.inr rfl) hl0] at HNXT
                have HQ := hid (HNXT.out HMISX.out.symm _ _ HWK.out)
                go_wp2
                go_roundw
                case rel => exact ⟨k + 1, by go_num, HQ.out⟩
                case measure => simp [intOf]; omega
            rw [wkF_oth q13 q14 q21 q22] at HMISX
            rw [wkNext_oth q13 q14 q21 q22] at HNXT
            have HEN := hid (wrest_any c s p (some ⟨pb, poff, none⟩) cp k ⟨xo, xa, xb, xc, xn⟩ v ov q w1 wr HCI.out HRI.out hlt HXX.out HWK.out hxa (by omega) (by omega) HLT.out)
            rw [HMISX.out] at HEN
            go_upto_region 31 with (go_at_call 54; go_must (refine HEN.out.mono ?_; rintro e w3 ⟨rfl, hb3⟩; have HB3 := hid (bthen HBW.out hb3); have HK3 := hid (HWK.out.later hb3); clear hb3))
            by_cases hz : mv = 0
            · have HQ := hid (HNXT.out hz _ w3 HK3.out)
              subst hz
              go_wp2
              go_roundw
              case rel => exact ⟨k + 1, by go_num, HQ.out⟩
              case measure => simp [intOf]; omega
            · have HA := hid (HMSX.out mv rfl hz)
              have ez : ¬ (mv : Int) = 0 := by omega
              go_wp2
              exact bodyPost_ret (v := .tuple #[.int .i64 (mv : Int), .int .i64 (k : Int)]) (by simp [results, Tryz.results32, go_sem]) rfl (ans_hit HA.out hz HB3.out)
          · have hle := HP.out.le
            obtain rfl : k = p.length := by omega
            obtain ⟨v, ov, hwa, hwk⟩ := HP.out.ex
            have HA := hid (HNN2.out hmb' HP.out.ok)
            have HBE := hid (bthen HB1.out hwk.below)
            clear hwa hwk
            go_wp2
            exact bodyPost_ret (v := .tuple #[.int .i64 0, .int .i64 0]) (by simp [results, Tryz.results32, go_sem]) rfl ⟨0, 0, rfl, .inl ⟨HA.out, rfl⟩, HBE.out⟩

end Go.Proofs.YtblalejegjieaaaGreatDoor
