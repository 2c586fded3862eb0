/-
  What is printed is read as it was: the plain side.
-/
import Derived.Test.YtbobjhadckeieaaGreatDoorTPrint
import Derived.Test.YtbobjhadckeieaaGreatDoorTParse
namespace Go.Proofs.YtbobjhadckeieaaGreatDoor
open Go.RowKit
set_option linter.unusedVariables false

theorem cut_tail (i : Ins) : ∀ (fs : List UInt8) (w : List UInt8), 32 ∉ w → cutAt 32 (w ++ tailF i fs) = w :: fs.map fun f => Lib.itoa (getF i f) := by
  intro fs
  induction fs with
  | nil => intro w hw; simp [tailF]; exact cutAt_none hw
  | cons f r ih =>
    intro w hw
    have e : tailF i (f :: r) = 32 :: (Lib.itoa (getF i f) ++ tailF i r) := by simp [tailF]
    rw [e, cutAt_hit hw, ih _ (itoa_not _ 32 (by decide))]
    rfl
theorem findSome_only {α β : Type} (p : α → Option β) (x : β) : ∀ (l : List α), (∀ s ∈ l, p s = none ∨ p s = some x) → (∃ s ∈ l, p s = some x) → l.findSome? p = some x := by
  intro l
  induction l with
  | nil => intro _ h; obtain ⟨s, hs, _⟩ := h; cases hs
  | cons a r ih =>
    intro h1 h2
    rw [List.findSome?_cons]
    rcases h1 a (by simp) with h | h
    · rw [h]
      refine ih (fun s hs => h1 s (by simp [hs])) ?_
      obtain ⟨s, hs, hx⟩ := h2
      rcases List.mem_cons.1 hs with rfl | hs
      · rw [h] at hx; cases hx
      · exact ⟨s, hs, hx⟩
    · rw [h]
theorem words_apart : ∀ s ∈ shps, ∀ t ∈ shps, s.word = t.word → s.op = t.op ∧ s.b = t.b ∧ s.fields = t.fields := by decide

set_option maxHeartbeats 4000000 in
theorem filled_back (s : Shp) (hs : s ∈ shps) (i : Ins) (hm : mayB i = true) (hn : nOk i.n) (hf : sfits s i = true) : filledOf s (s.fields.map fun f => Lib.itoa (getF i f)) = some i := by
  have hok := ok_of_may hm hn
  have hp : ∀ f, Lib.parseIntB 64 (Lib.itoa (getF i f)) = .ok (getF i f) := fun f => parse_itoa _ (getF_ok hok f).lo (getF_ok hok f).hi
  unfold filledOf
  rw [if_pos (by simp)]
  obtain ⟨op, a, b, c, n⟩ := i
  unfold mayB at hm
  simp only [Bool.and_eq_true] at hm
  obtain ⟨⟨⟨⟨h0, h1⟩, h2⟩, h3⟩, h4⟩ := hm
  have g1 := amongB_iff.1 h1
  have g2 := amongB_iff.1 h2
  have g3 := amongB_iff.1 h3
  have hA := hp 65
  have hB := hp 66
  have hC := hp 67
  have hN := hp 78
  simp only [getF] at hA hB hC hN
  simp at hA hB hC hN
  clear h0 h1 h2 h3 hok hn hp
  simp only [shps, List.mem_cons, List.not_mem_nil, or_false] at hs
  rcases hs with rfl | rfl | rfl | rfl | rfl | rfl | rfl | rfl | rfl | rfl | rfl | rfl | rfl | rfl | rfl | rfl | rfl | rfl | rfl | rfl | rfl | rfl | rfl
  all_goals
    simp [sfits, hasB, Lib.indexByte] at hf
    first | subst hf | (obtain ⟨hf, hf2⟩ := hf; subst hf)
    simp [limA, limB, limC, freeB] at g1 g2 g3 h4
    simp [fillGo, getF, putF, hA, hB, hC, hN]
    try omega

theorem line_found (i : Ins) (hm : mayB i = true) : ∃ s ∈ shps, sfits s i = true ∧ spellL i = s.word ++ tailF i s.fields := by
  cases hf : shps.find? (fun s => sfits s i) with
  | some s =>
    refine ⟨s, List.mem_of_find?_eq_some hf, ?_, ?_⟩
    · simpa using List.find?_some hf
    · unfold spellL; rw [hf]
  | none =>
    exfalso
    have h := List.find?_eq_none.1 hf
    obtain ⟨op, a, b, c, n⟩ := i
    unfold mayB at hm
    simp only [Bool.and_eq_true] at hm
    obtain ⟨⟨⟨⟨h0, h1⟩, h2⟩, h3⟩, _⟩ := hm
    have ho : 1 ≤ op ∧ op ≤ 22 := of_decide_eq_true h0
    have g2 : 0 ≤ b ∧ b < limB op := amongB_iff.1 h2
    have key : ∀ (k : Nat) (s : Shp), shps[k]? = some s → sfits s ⟨op, a, b, c, n⟩ = true → False := fun k s hk hs => h s (List.mem_of_getElem? hk) hs
    rcases op_cases op with (rfl | rfl | rfl | rfl | rfl | rfl | rfl | rfl | rfl | rfl | rfl) | (rfl | rfl | rfl | rfl | rfl | rfl | rfl | rfl | rfl | rfl | rfl) | h'
    · have hb : b = 0 := by have : limB 1 = 1 := rfl; omega
      subst hb
      exact key 0 _ rfl rfl
    · exact key 1 _ rfl (by unfold sfits; rw [show hasB _ = true from rfl]; simp)
    · exact key 2 _ rfl (by unfold sfits; rw [show hasB _ = true from rfl]; simp)
    · exact key 3 _ rfl (by unfold sfits; rw [show hasB _ = true from rfl]; simp)
    · exact key 4 _ rfl (by unfold sfits; rw [show hasB _ = true from rfl]; simp)
    · exact key 5 _ rfl (by unfold sfits; rw [show hasB _ = true from rfl]; simp)
    · exact key 6 _ rfl (by unfold sfits; rw [show hasB _ = true from rfl]; simp)
    · exact key 7 _ rfl (by unfold sfits; rw [show hasB _ = true from rfl]; simp)
    · exact key 8 _ rfl (by unfold sfits; rw [show hasB _ = true from rfl]; simp)
    · exact key 9 _ rfl (by unfold sfits; rw [show hasB _ = true from rfl]; simp)
    · exact key 10 _ rfl (by unfold sfits; rw [show hasB _ = true from rfl]; simp)
    · have hb : b = 0 := by have : limB 12 = 1 := rfl; omega
      subst hb
      exact key 11 _ rfl rfl
    · have hb : b = 0 ∨ b = 1 := by have : limB 13 = 2 := rfl; omega
      rcases hb with rfl | rfl
      · exact key 12 _ rfl rfl
      · exact key 13 _ rfl rfl
    · have hb : b = 0 := by have : limB 14 = 1 := rfl; omega
      subst hb
      exact key 14 _ rfl rfl
    · have hb : b = 0 := by have : limB 15 = 1 := rfl; omega
      subst hb
      exact key 15 _ rfl rfl
    · have hb : b = 0 := by have : limB 16 = 1 := rfl; omega
      subst hb
      exact key 16 _ rfl rfl
    · have hb : b = 0 := by have : limB 17 = 1 := rfl; omega
      subst hb
      exact key 17 _ rfl rfl
    · have hb : b = 0 := by have : limB 18 = 1 := rfl; omega
      subst hb
      exact key 18 _ rfl rfl
    · have hb : b = 0 := by have : limB 19 = 1 := rfl; omega
      subst hb
      exact key 19 _ rfl rfl
    · have hb : b = 0 := by have : limB 20 = 1 := rfl; omega
      subst hb
      exact key 20 _ rfl rfl
    · have hb : b = 0 := by have : limB 21 = 1 := rfl; omega
      subst hb
      exact key 21 _ rfl rfl
    · have hb : b = 0 := by have : limB 22 = 1 := rfl; omega
      subst hb
      exact key 22 _ rfl rfl
    · omega

theorem instr_back (i : Ins) (hm : mayB i = true) (hn : nOk i.n) : instrOf (lineL i) = some i := by
  obtain ⟨s, hs, hf, hsp⟩ := line_found i hm
  have hl : lineL i = s.word ++ tailF i s.fields := by unfold lineL; rw [if_pos hm, hsp]
  have hw := (shps_words s hs).1
  have hc : cutAt 32 (lineL i) = s.word :: s.fields.map fun f => Lib.itoa (getF i f) := by rw [hl]; exact cut_tail i _ _ hw
  have htry : ∀ t ∈ shps, t.word = s.word → instrTry (lineL i) t = some i := by
    intro t ht he
    obtain ⟨e1, e2, e3⟩ := words_apart t ht s hs he
    have hft : filledOf t (s.fields.map fun f => Lib.itoa (getF i f)) = some i := by
      have := filled_back s hs i hm hn hf
      unfold filledOf at this ⊢
      rw [e1, e2, e3]
      exact this
    unfold instrTry
    rw [hc]
    refine (if_pos he).trans ?_
    show (match filledOf t (s.fields.map fun f => Lib.itoa (getF i f)) with | some i_1 => if mayB i_1 = true ∧ lineL i_1 = lineL i then some i_1 else none | none => none) = some i
    rw [hft]
    exact if_pos ⟨hm, rfl⟩
  refine findSome_only _ _ _ (fun t ht => ?_) ⟨s, hs, htry s hs rfl⟩
  by_cases he : t.word = s.word
  · exact .inr (htry t ht he)
  · left
    unfold instrTry
    rw [hc]
    exact if_neg he

theorem line_clean (i : Ins) (hm : mayB i = true) (c : UInt8) (hc : c.toNat < 32) (hw : ∀ s ∈ shps, c ∉ s.word) : c ∉ lineL i := by
  obtain ⟨s, hs, hf, hsp⟩ := line_found i hm
  unfold lineL
  rw [if_pos hm, hsp]
  intro h
  rcases List.mem_append.1 h with h | h
  · exact hw s hs h
  · simp only [tailF, List.mem_flatMap, List.mem_cons] at h
    obtain ⟨f, _, h | h⟩ := h
    · subst h; revert hc; decide
    · exact itoa_not _ c (by omega) h
theorem line_no_end (i : Ins) (hm : mayB i = true) : 10 ∉ lineL i := line_clean i hm 10 (by decide) fun s hs => (shps_words s hs).2.1
theorem line_ne (i : Ins) (hm : mayB i = true) : lineL i ≠ [] := by
  obtain ⟨s, hs, hf, hsp⟩ := line_found i hm
  unfold lineL
  rw [if_pos hm, hsp]
  intro h
  exact (shps_words s hs).2.2 (List.append_eq_nil_iff.1 h).1

theorem cut_print : ∀ (ps : List Ins), ps.all mayB = true → cutAt 10 (printL ps) = ps.map lineL ++ [[]] := by
  intro ps
  induction ps with
  | nil => intro _; rfl
  | cons p l ih =>
    intro h
    rw [List.all_cons, Bool.and_eq_true] at h
    have e : printL (p :: l) = lineL p ++ 10 :: printL l := by simp [printL]
    rw [e, cutAt_hit (line_no_end p h.1), ih h.2]
    rfl
theorem lines_back : ∀ (ps : List Ins), ps.all mayB = true → (∀ i ∈ ps, nOk i.n) → linesOf (ps.map lineL ++ [[]]) = some ps := by
  intro ps
  induction ps with
  | nil => intro _ _; simp [linesOf]
  | cons p l ih =>
    intro h hn
    rw [List.all_cons, Bool.and_eq_true] at h
    rw [List.map_cons, List.cons_append]
    unfold linesOf
    rw [if_neg (line_ne p h.1), instr_back p h.1 (hn p (by simp)), ih h.2 fun i hi => hn i (by simp [hi])]

/-- The document's example. -/
theorem told_line : linesOf (cutAt 10 [115, 101, 116, 32, 48, 32, 53]) = some [⟨1, 0, 0, 0, 5⟩] := by
  have hl : lineL ⟨1, 0, 0, 0, 5⟩ = [115, 101, 116, 32, 48, 32, 53] := by
    have h0 : Lib.itoa 0 = [48] := by unfold Lib.itoa; rw [if_neg (by decide), show (0 : Int).toNat = 0 from rfl, decDigits_small (by decide)]; rfl
    have h5 : Lib.itoa 5 = [53] := by unfold Lib.itoa; rw [if_neg (by decide), show (5 : Int).toNat = 5 from rfl, decDigits_small (by decide)]; rfl
    unfold lineL
    rw [if_pos (by decide)]
    simp [spellL, shps, sfits, List.find?, tailF, getF, h0, h5]
  rw [← hl, cutAt_none (line_no_end _ (by decide))]
  unfold linesOf
  rw [if_neg (line_ne _ (by decide)), instr_back _ (by decide) (by unfold nOk; decide)]
  rfl

end Go.Proofs.YtbobjhadckeieaaGreatDoor
