/-
  What is to be written, in plain words: bits, the filter, values; a set behind a pointer, the program's.
-/
import Derived.Test.YtjfinnjmcnjciaaRdR
namespace Go.Proofs.Ytjfinnjmcnjciaa
open Go.RowKit

/-! ### Bits -/
theorem u64_wrap {x : Int} (h0 : 0 ≤ x) (h1 : x < 18446744073709551616) : IntKind.u64.wrap x = x := by
  simp only [IntKind.wrap, IntKind.signed, Bool.false_and]
  exact Int.emod_eq_of_lt h0 h1
theorem or_u64 (a b : Nat) (ha : a < 2 ^ 64) (hb : b < 2 ^ 64) : bits .or .u64 (a : Int) (b : Int) = ((a ||| b : Nat) : Int) := by
  have hab : a ||| b < 2 ^ 64 := Nat.or_lt_two_pow ha hb
  unfold bits
  show IntKind.u64.wrap (((BitVec.ofInt 64 (a : Int) ||| BitVec.ofInt 64 (b : Int)).toNat : Nat) : Int) = _
  have e1 : (BitVec.ofInt 64 (a : Int)).toNat = a := by rw [BitVec.toNat_ofInt]; omega
  have e2 : (BitVec.ofInt 64 (b : Int)).toNat = b := by rw [BitVec.toNat_ofInt]; omega
  rw [BitVec.toNat_or, e1, e2]
  exact u64_wrap (by omega) (by omega)
theorem and_u64 (a b : Nat) (ha : a < 2 ^ 64) (hb : b < 2 ^ 64) : bits .and .u64 (a : Int) (b : Int) = ((a &&& b : Nat) : Int) := by
  have hab : a &&& b < 2 ^ 64 := Nat.and_lt_two_pow _ hb
  unfold bits
  show IntKind.u64.wrap (((BitVec.ofInt 64 (a : Int) &&& BitVec.ofInt 64 (b : Int)).toNat : Nat) : Int) = _
  have e1 : (BitVec.ofInt 64 (a : Int)).toNat = a := by rw [BitVec.toNat_ofInt]; omega
  have e2 : (BitVec.ofInt 64 (b : Int)).toNat = b := by rw [BitVec.toNat_ofInt]; omega
  rw [BitVec.toNat_and, e1, e2]
  exact u64_wrap (by omega) (by omega)
theorem pow_lt {i : Nat} (h : i < 64) : 2 ^ i < 2 ^ 64 := Nat.pow_lt_pow_right (by omega) h
/-- The one bit of a place. -/
def bitN (k : Int) : Nat := 2 ^ (k.toNat % 64)
def bitF (k : Int) : Nat := if k < 0 then 0 else bitN k
theorem bitN_lt (k : Int) : bitN k < 2 ^ 64 := pow_lt (Nat.mod_lt _ (by omega))
theorem bitF_lt (k : Int) : bitF k < 2 ^ 64 := by
  unfold bitF
  split
  · decide
  · exact bitN_lt k
theorem bitF_neg {k : Int} (h : k < 0) : bitF k = 0 := if_pos h
theorem bitF_pos {k : Int} (h : 0 ≤ k) : bitF k = bitN k := if_neg (by omega)

/-- The filter of some words. -/
def filtK (ks : List Int) : Nat := ks.foldl (fun f k => f ||| bitN k) 0
def filtL (ws : List Wd) : Nat := filtK (ws.map fun p => p.1)
theorem filtL_nil : filtL [] = 0 := rfl
theorem filtL_snoc (ws : List Wd) (p : Wd) : filtL (ws ++ [p]) = filtL ws ||| bitN p.1 := by simp [filtL, filtK, List.foldl_append]
theorem filtK_lt (ks : List Int) : ∀ f, f < 2 ^ 64 → ks.foldl (fun f k => f ||| bitN k) f < 2 ^ 64 := by
  induction ks with
  | nil => exact fun f h => h
  | cons k ks ih => exact fun f h => ih _ (Nat.or_lt_two_pow h (bitN_lt k))
theorem filtL_lt (ws : List Wd) : filtL ws < 2 ^ 64 := filtK_lt _ 0 (by decide)
/-- Whether the filter has the place's bit. -/
def mayL (ws : List Wd) (k : Int) : Bool := decide (0 ≤ k) && (filtL ws).testBit (k.toNat % 64)
theorem and_pow (f i : Nat) : (f &&& 2 ^ i != 0) = f.testBit i := by
  cases h : f.testBit i with
  | false =>
    have : f &&& 2 ^ i = 0 := by
      refine Nat.eq_of_testBit_eq fun j => ?_
      rw [Nat.testBit_and, Nat.zero_testBit, Nat.testBit_two_pow]
      by_cases e : i = j
      · subst e; rw [h]; rfl
      · rw [decide_eq_false e, Bool.and_false]
    rw [this]
    rfl
  | true =>
    have : (f &&& 2 ^ i).testBit i = true := by rw [Nat.testBit_and, Nat.testBit_two_pow_self, h]; rfl
    cases e : f &&& 2 ^ i with
    | zero => rw [e, Nat.zero_testBit] at this; cases this
    | succ n => rfl
theorem mayL_and (ws : List Wd) (k : Int) : (filtL ws &&& bitF k != 0) = mayL ws k := by
  unfold mayL
  by_cases h : k < 0
  · rw [bitF_neg h, decide_eq_false (by omega)]; simp
  · rw [bitF_pos (by omega), decide_eq_true (by omega)]
    unfold bitN
    rw [and_pow, Bool.true_and]
theorem filtK_keep (i : Nat) (ks : List Int) : ∀ f, f.testBit i = true → (ks.foldl (fun f k => f ||| bitN k) f).testBit i = true := by
  induction ks with
  | nil => exact fun f h => h
  | cons k ks ih => exact fun f h => ih _ (by rw [Nat.testBit_or, h]; rfl)
theorem filtK_has (k : Int) (ks : List Int) : ∀ f, k ∈ ks → (ks.foldl (fun f k => f ||| bitN k) f).testBit (k.toNat % 64) = true := by
  induction ks with
  | nil => exact fun f h => by simp at h
  | cons j ks ih =>
    intro f h
    rcases List.mem_cons.1 h with rfl | h
    · refine filtK_keep _ ks _ ?_
      rw [Nat.testBit_or]
      unfold bitN
      rw [Nat.testBit_two_pow_self, Bool.or_true]
    · exact ih _ h
theorem mayL_has {ws : List Wd} {k : Int} (h0 : 0 ≤ k) (h : hasL ws k = true) : mayL ws k = true := by
  obtain ⟨p, hp, hx⟩ := List.any_eq_true.1 h
  unfold mayL
  rw [decide_eq_true h0, Bool.true_and]
  refine filtK_has k _ 0 (List.mem_map.2 ⟨p, hp, by simpa using hx⟩)
/-- Nothing below 0 is there. -/
def PosL (ws : List Wd) : Prop := ∀ p ∈ ws, 0 ≤ p.1
theorem PosL.has {ws : List Wd} {k : Int} (hp : PosL ws) (h : hasL ws k = true) : 0 ≤ k := by
  obtain ⟨p, hm, hx⟩ := List.any_eq_true.1 h
  have := hp p hm
  have hx : p.1 = k := by simpa using hx
  omega
theorem PosL.may {ws : List Wd} {k : Int} (hp : PosL ws) (h : mayL ws k = false) : hasL ws k = false := by
  cases hh : hasL ws k with
  | false => rfl
  | true => rw [mayL_has (hp.has hh) hh] at h; cases h
theorem PosL.snoc {ws : List Wd} {k : Int} (hp : PosL ws) (hk : 0 ≤ k) (v : Int) : PosL (ws ++ [(k, v)]) := fun p h => by
  rcases List.mem_append.1 h with h | h
  · exact hp p h
  · simp at h; subst h; exact hk

/-! ### Values -/
def valL : List Wd → Int → Int
  | [], _ => 0
  | p :: l, k => if p.1 = k then p.2 else valL l k
def updL : List Wd → Int → Int → List Wd
  | [], _, _ => []
  | p :: l, k, v => if p.1 = k then (k, v) :: l else p :: updL l k v
theorem hasL_cons (p : Wd) (ws : List Wd) (k : Int) : hasL (p :: ws) k = (p.1 == k || hasL ws k) := rfl
theorem valL_none : ∀ (ws : List Wd) (k : Int), hasL ws k = false → valL ws k = 0
  | [], _, _ => rfl
  | p :: l, k, h => by
    rw [hasL_cons, Bool.or_eq_false_iff] at h
    unfold valL
    rw [if_neg (by simpa using h.1)]
    exact valL_none l k h.2
theorem valL_at : ∀ (ws : List Wd) (i : Nat) (p : Wd) (k : Int), ws[i]? = some p → p.1 = k → hasL (ws.take i) k = false → valL ws k = p.2
  | [], i, p, k, h, _, _ => by simp at h
  | q :: l, 0, p, k, h, hk, _ => by
    simp at h
    subst h
    unfold valL
    rw [if_pos hk]
  | q :: l, i + 1, p, k, h, hk, hf => by
    rw [List.take_succ_cons, hasL_cons, Bool.or_eq_false_iff] at hf
    unfold valL
    rw [if_neg (by simpa using hf.1)]
    exact valL_at l i p k (by simpa using h) hk hf.2
theorem updL_at : ∀ (ws : List Wd) (i : Nat) (p : Wd) (k v : Int), ws[i]? = some p → p.1 = k → hasL (ws.take i) k = false → updL ws k v = ws.set i (k, v)
  | [], i, p, k, v, h, _, _ => by simp at h
  | q :: l, 0, p, k, v, h, hk, _ => by
    simp at h
    subst h
    unfold updL
    rw [if_pos hk]
    rfl
  | q :: l, i + 1, p, k, v, h, hk, hf => by
    rw [List.take_succ_cons, hasL_cons, Bool.or_eq_false_iff] at hf
    unfold updL
    rw [if_neg (by simpa using hf.1), updL_at l i p k v (by simpa using h) hk hf.2]
    rfl
theorem updL_keys : ∀ (ws : List Wd) (k v : Int), (updL ws k v).map (fun p => p.1) = ws.map fun p => p.1
  | [], _, _ => rfl
  | p :: l, k, v => by
    unfold updL
    split
    · next h => simp [h]
    · rw [List.map_cons, List.map_cons, updL_keys l k v]
theorem updL_len (ws : List Wd) (k v : Int) : (updL ws k v).length = ws.length := by
  have := congrArg List.length (updL_keys ws k v)
  simpa using this
theorem filtL_upd (ws : List Wd) (k v : Int) : filtL (updL ws k v) = filtL ws := by unfold filtL; rw [updL_keys]
theorem hasL_keys (ws : List Wd) (k : Int) : hasL ws k = (ws.map fun p => p.1).any (· == k) := by
  unfold hasL
  rw [List.any_map]
  rfl
theorem hasL_upd (ws : List Wd) (k v j : Int) : hasL (updL ws k v) j = hasL ws j := by rw [hasL_keys, updL_keys, ← hasL_keys]
theorem PosL.upd {ws : List Wd} (hp : PosL ws) (k v : Int) : PosL (updL ws k v) := fun p h => by
  have h2 : p.1 ∈ (updL ws k v).map fun p => p.1 := List.mem_map.2 ⟨p, h, rfl⟩
  rw [updL_keys] at h2
  obtain ⟨q, hq, e⟩ := List.mem_map.1 h2
  rw [← e]
  exact hp q hq
theorem valL_upd : ∀ (ws : List Wd) (k v j : Int), hasL ws k = true → valL (updL ws k v) j = if k = j then v else valL ws j
  | [], k, v, j, h => by cases h
  | p :: l, k, v, j, h => by
    unfold updL
    by_cases hk : p.1 = k
    · rw [if_pos hk]
      unfold valL
      subst hk
      by_cases hj : p.1 = j
      · rw [if_pos hj, if_pos hj]
      · rw [if_neg hj, if_neg hj, if_neg hj]
    · rw [if_neg hk]
      have hl : hasL l k = true := by
        rw [hasL_cons, show (p.1 == k) = false by simpa using hk, Bool.false_or] at h
        exact h
      unfold valL
      by_cases hj : p.1 = j
      · rw [if_pos hj, if_pos hj, if_neg (by omega)]
      · rw [if_neg hj, if_neg hj]
        exact valL_upd l k v j hl
theorem valL_snoc : ∀ (ws : List Wd) (k v j : Int), hasL ws k = false → valL (ws ++ [(k, v)]) j = if k = j then v else valL ws j
  | [], k, v, j, _ => rfl
  | p :: l, k, v, j, h => by
    rw [hasL_cons, Bool.or_eq_false_iff] at h
    have hk : ¬ p.1 = k := by simpa using h.1
    rw [List.cons_append]
    unfold valL
    by_cases hj : p.1 = j
    · rw [if_pos hj, if_pos hj, if_neg (by omega)]
    · rw [if_neg hj, if_neg hj]
      exact valL_snoc l k v j h.2
theorem find_spec {ws : List Wd} {k : Int} (h : hasL ws k = true) : ∃ i p, findF ws k = ((i : Nat) : Int) ∧ ws[i]? = some p ∧ p.1 = k ∧ hasL (ws.take i) k = false := by
  cases hf : ws.findIdx? (fun p => p.1 == k) with
  | none =>
    rw [List.findIdx?_eq_none_iff] at hf
    obtain ⟨p, hp, hx⟩ := List.any_eq_true.1 h
    have := hf p hp
    rw [hx] at this
    cases this
  | some i =>
    have h2 := hf
    rw [List.findIdx?_eq_some_iff_getElem] at h2
    obtain ⟨hl, he, hb⟩ := h2
    refine ⟨i, ws[i], by unfold findF; rw [hf], List.getElem?_eq_getElem hl, by simpa using he, ?_⟩
    cases hh : hasL (ws.take i) k with
    | false => rfl
    | true =>
      obtain ⟨q, hq, hx⟩ := List.any_eq_true.1 hh
      obtain ⟨j, hj, rfl⟩ := List.mem_iff_getElem.1 hq
      rw [List.length_take] at hj
      have := hb j (by omega)
      rw [List.getElem_take] at hx
      exact absurd hx this

/-- What Put says, and what is there behind it. -/
def wputB (R : Nat) (ws : List Wd) (k : Int) : Bool := decide (0 ≤ k) && (hasL ws k || decide (ws.length < R))
def wputL (R : Nat) (ws : List Wd) (k v : Int) : List Wd := if k < 0 then ws else if hasL ws k = true then updL ws k v else if ws.length < R then ws ++ [(k, v)] else ws
theorem wputL_neg {R : Nat} {ws : List Wd} {k : Int} (v : Int) (h : k < 0) : wputL R ws k v = ws := if_pos h
theorem wputL_there {R : Nat} {ws : List Wd} {k : Int} (v : Int) (h0 : 0 ≤ k) (h : hasL ws k = true) : wputL R ws k v = updL ws k v := (if_neg (by omega)).trans (if_pos h)
theorem wputL_new {R : Nat} {ws : List Wd} {k : Int} (v : Int) (h0 : 0 ≤ k) (h : hasL ws k = false) (hl : ws.length < R) : wputL R ws k v = ws ++ [(k, v)] :=
  (if_neg (by omega)).trans ((if_neg (by rw [h]; decide)).trans (if_pos hl))
theorem wputL_full {R : Nat} {ws : List Wd} {k : Int} (v : Int) (h0 : 0 ≤ k) (h : hasL ws k = false) (hl : ¬ ws.length < R) : wputL R ws k v = ws :=
  (if_neg (by omega)).trans ((if_neg (by rw [h]; decide)).trans (if_neg hl))
theorem wputB_neg {R : Nat} {ws : List Wd} {k : Int} (h : k < 0) : wputB R ws k = false := by unfold wputB; rw [decide_eq_false (by omega)]; rfl
theorem wputB_there {R : Nat} {ws : List Wd} {k : Int} (h0 : 0 ≤ k) (h : hasL ws k = true) : wputB R ws k = true := by unfold wputB; rw [decide_eq_true h0, h]; rfl
theorem wputB_new {R : Nat} {ws : List Wd} {k : Int} (h0 : 0 ≤ k) (h : hasL ws k = false) : wputB R ws k = decide (ws.length < R) := by unfold wputB; rw [decide_eq_true h0, h]; rfl

/-- A set of the program's, behind a pointer to block b; n Gets have looked. -/
structure WSet (w : World) (b R : Nat) (ws : List Wd) (n : Nat) : Prop where
  blk : ∃ cs : Array Value, w.heap[b]? = some (.cells cs 150 (0, 0)) ∧ cs.size = 68 ∧ cs[0]? = some (.int .i64 R) ∧ cs[1]? = some (.int .i64 ws.length) ∧
    cs[66]? = some (.int .u64 (filtL ws)) ∧ cs[67]? = some (.int .i64 n) ∧ ∀ k p, ws[k]? = some p → cs[2 + k * 2]? = some (.int .i64 p.1) ∧ cs[2 + k * 2 + 1]? = some (.int .i64 p.2)
  room : R ≤ 32
  len : ws.length ≤ R
  pos : PosL ws
theorem WSet.lt {w : World} {b R : Nat} {ws : List Wd} {n : Nat} (h : WSet w b R ws n) : b < w.heap.size := by
  obtain ⟨cs, h0, _⟩ := h.blk
  exact lt_of_block h0
theorem WSet.keep {w w' : World} {b R : Nat} {ws : List Wd} {n : Nat} (h : WSet w b R ws n) (hb : w'.heap[b]? = w.heap[b]?) : WSet w' b R ws n := by
  obtain ⟨cs, h0, h1⟩ := h.blk
  exact ⟨⟨cs, hb.trans h0, h1⟩, h.room, h.len, h.pos⟩
theorem WSet.below {w w' : World} {b R : Nat} {ws : List Wd} {n : Nat} (h : WSet w b R ws n) (hb : Below w.heap.size w w') : WSet w' b R ws n := h.keep (hb.block b h.lt)
theorem WSet.wrote {S : Nat → Prop} {w w' : World} {b R : Nat} {ws : List Wd} {n : Nat} (h : WSet w b R ws n) (hw : Wrote S w w') (hs : ¬ S b) : WSet w' b R ws n := h.keep (hw.block b h.lt hs)
theorem WSet.facts {w : World} {b R : Nat} {ws : List Wd} {n : Nat} (h : WSet w b R ws n) : w.cell? ⟨b, 0, none⟩ = some (.int .i64 R) ∧ w.cell? ⟨b, 1, none⟩ = some (.int .i64 ws.length) ∧
    w.cell? ⟨b, 66, none⟩ = some (.int .u64 (filtL ws)) ∧ w.cell? ⟨b, 67, none⟩ = some (.int .i64 n) ∧ (∀ i, w.frozen? ⟨b, i, none⟩ = false) ∧ ∀ k p, ws[k]? = some p → WAt w b (2 + k * 2) p := by
  obtain ⟨cs, h0, hs, hr, hl, hf, ha, hw⟩ := h.blk
  exact ⟨(cell_of_blk h0 0).trans hr, (cell_of_blk h0 1).trans hl, (cell_of_blk h0 66).trans hf, (cell_of_blk h0 67).trans ha, fun i => frozen_of_blk h0 i, fun k p hk => ⟨(cell_of_blk h0 _).trans (hw k p hk).1, (cell_of_blk h0 _).trans (hw k p hk).2⟩⟩
theorem WSet.cell {w : World} {b R : Nat} {ws : List Wd} {n : Nat} (h : WSet w b R ws n) {i : Nat} (hi : i < 68) : ∃ u, w.cell? ⟨b, i, none⟩ = some u := by
  obtain ⟨cs, h0, hs, _⟩ := h.blk
  exact ⟨_, (cell_of_blk h0 i).trans (Array.getElem?_eq_getElem (by omega))⟩
theorem WSet.row {w : World} {b R : Nat} {ws : List Wd} {n : Nat} (h : WSet w b R ws n) : WRow w (some ⟨b, 2, none⟩) ws.length ws :=
  ⟨rfl, .inr ⟨b, 2, rfl, h.lt, h.facts.2.2.2.2.2⟩⟩
/-- One Get more has looked. -/
theorem WSet.ask {w : World} {b R : Nat} {ws : List Wd} {n : Nat} (h : WSet w b R ws n) : WSet (w.setCell ⟨b, 67, none⟩ (.int .i64 ((n + 1 : Nat) : Int))) b R ws (n + 1) := by
  obtain ⟨cs, h0, hs, hr, hl, hf, ha, hw⟩ := h.blk
  have hR := h.room
  have hL := h.len
  refine ⟨⟨_, blk_setCell h0 _ _, by simp [hs], ?_, ?_, ?_, ?_, ?_⟩, h.room, h.len, h.pos⟩
  · rw [Array.getElem?_setIfInBounds_ne (by omega)]; exact hr
  · rw [Array.getElem?_setIfInBounds_ne (by omega)]; exact hl
  · rw [Array.getElem?_setIfInBounds_ne (by omega)]; exact hf
  · rw [Array.getElem?_setIfInBounds_self_of_lt (by omega)]
  · intro k p hk
    have := (List.getElem?_eq_some_iff.1 hk).1
    rw [Array.getElem?_setIfInBounds_ne (by omega), Array.getElem?_setIfInBounds_ne (by omega)]
    exact hw k p hk
/-- A word's value laid anew. -/
theorem WSet.upd {w : World} {b R : Nat} {ws : List Wd} {n : Nat} (h : WSet w b R ws n) {i : Nat} {p : Wd} {k : Int} (v : Int) (hi : ws[i]? = some p) (hk : p.1 = k) (hf : hasL (ws.take i) k = false) :
    WSet (w.setCell ⟨b, 2 + i * 2 + 1, none⟩ (.int .i64 v)) b R (updL ws k v) n := by
  obtain ⟨cs, h0, hs, hr, hl, hff, ha, hw⟩ := h.blk
  have hR := h.room
  have hL := h.len
  have hil := (List.getElem?_eq_some_iff.1 hi).1
  refine ⟨⟨_, blk_setCell h0 _ _, by simp [hs], ?_, ?_, ?_, ?_, ?_⟩, h.room, by rw [updL_len]; exact h.len, h.pos.upd k v⟩
  · rw [Array.getElem?_setIfInBounds_ne (by omega)]; exact hr
  · rw [Array.getElem?_setIfInBounds_ne (by omega), updL_len]; exact hl
  · rw [Array.getElem?_setIfInBounds_ne (by omega), filtL_upd]; exact hff
  · rw [Array.getElem?_setIfInBounds_ne (by omega)]; exact ha
  · intro j q hj
    rw [updL_at ws i p k v hi hk hf] at hj
    have hjl : j < ws.length := by have := (List.getElem?_eq_some_iff.1 hj).1; simpa using this
    by_cases e : j = i
    · subst e
      rw [List.getElem?_set_self hil] at hj
      simp at hj
      subst hj
      have hq := hw j p hi
      rw [hk] at hq
      refine ⟨?_, ?_⟩
      · rw [Array.getElem?_setIfInBounds_ne (by omega)]; exact hq.1
      · rw [Array.getElem?_setIfInBounds_self_of_lt (by omega)]
    · rw [List.getElem?_set_ne (by omega)] at hj
      rw [Array.getElem?_setIfInBounds_ne (by omega), Array.getElem?_setIfInBounds_ne (by omega)]
      exact hw j q hj
/-- A set whose count and filter may be behind its words. -/
structure WRaw (w : World) (b R : Nat) (ws : List Wd) (n c f : Nat) : Prop where
  blk : ∃ cs : Array Value, w.heap[b]? = some (.cells cs 150 (0, 0)) ∧ cs.size = 68 ∧ cs[0]? = some (.int .i64 R) ∧ cs[1]? = some (.int .i64 c) ∧
    cs[66]? = some (.int .u64 f) ∧ cs[67]? = some (.int .i64 n) ∧ ∀ k p, ws[k]? = some p → cs[2 + k * 2]? = some (.int .i64 p.1) ∧ cs[2 + k * 2 + 1]? = some (.int .i64 p.2)
  most : ws.length ≤ 32
theorem WSet.raw {w : World} {b R : Nat} {ws : List Wd} {n : Nat} (h : WSet w b R ws n) : WRaw w b R ws n ws.length (filtL ws) := ⟨h.blk, Nat.le_trans h.len h.room⟩
theorem WRaw.set {w : World} {b R : Nat} {ws : List Wd} {n c f : Nat} (h : WRaw w b R ws n c f) (hc : c = ws.length) (hf : f = filtL ws) (hR : R ≤ 32) (hl : ws.length ≤ R) (hp : PosL ws) : WSet w b R ws n := by
  subst hc hf
  exact ⟨h.blk, hR, hl, hp⟩
theorem WRaw.lt {w : World} {b R : Nat} {ws : List Wd} {n c f : Nat} (h : WRaw w b R ws n c f) : b < w.heap.size := by
  obtain ⟨cs, h0, _⟩ := h.blk
  exact lt_of_block h0
theorem WRaw.keep {w w' : World} {b R : Nat} {ws : List Wd} {n c f : Nat} (h : WRaw w b R ws n c f) (hb : w'.heap[b]? = w.heap[b]?) : WRaw w' b R ws n c f := by
  obtain ⟨cs, h0, h1⟩ := h.blk
  exact ⟨⟨cs, hb.trans h0, h1⟩, h.most⟩
theorem WRaw.below {w w' : World} {b R : Nat} {ws : List Wd} {n c f : Nat} (h : WRaw w b R ws n c f) (hb : Below w.heap.size w w') : WRaw w' b R ws n c f := h.keep (hb.block b h.lt)
theorem WRaw.facts {w : World} {b R : Nat} {ws : List Wd} {n c f : Nat} (h : WRaw w b R ws n c f) : w.cell? ⟨b, 0, none⟩ = some (.int .i64 R) ∧ w.cell? ⟨b, 1, none⟩ = some (.int .i64 c) ∧
    w.cell? ⟨b, 66, none⟩ = some (.int .u64 f) ∧ w.cell? ⟨b, 67, none⟩ = some (.int .i64 n) ∧ ∀ i, w.frozen? ⟨b, i, none⟩ = false := by
  obtain ⟨cs, h0, hs, hr, hl, hf, ha, hw⟩ := h.blk
  exact ⟨(cell_of_blk h0 0).trans hr, (cell_of_blk h0 1).trans hl, (cell_of_blk h0 66).trans hf, (cell_of_blk h0 67).trans ha, fun i => frozen_of_blk h0 i⟩
theorem WRaw.word {w : World} {b R : Nat} {ws : List Wd} {n c f : Nat} (h : WRaw w b R ws n c f) (k v : Int) (hl : ws.length < 32) :
    WRaw ((w.setCell ⟨b, 2 + ws.length * 2, none⟩ (.int .i64 k)).setCell ⟨b, 2 + ws.length * 2 + 1, none⟩ (.int .i64 v)) b R (ws ++ [(k, v)]) n c f := by
  obtain ⟨cs, h0, hs, hr, hc, hf, ha, hw⟩ := h.blk
  refine ⟨⟨_, blk_setCell (blk_setCell h0 _ _) _ _, by simp [hs], ?_, ?_, ?_, ?_, ?_⟩, by rw [List.length_append, List.length_singleton]; omega⟩
  · rw [Array.getElem?_setIfInBounds_ne (by omega), Array.getElem?_setIfInBounds_ne (by omega)]; exact hr
  · rw [Array.getElem?_setIfInBounds_ne (by omega), Array.getElem?_setIfInBounds_ne (by omega)]; exact hc
  · rw [Array.getElem?_setIfInBounds_ne (by omega), Array.getElem?_setIfInBounds_ne (by omega)]; exact hf
  · rw [Array.getElem?_setIfInBounds_ne (by omega), Array.getElem?_setIfInBounds_ne (by omega)]; exact ha
  · intro j p hj
    by_cases e : j < ws.length
    · rw [List.getElem?_append_left e] at hj
      have := hw j p hj
      rw [Array.getElem?_setIfInBounds_ne (by omega), Array.getElem?_setIfInBounds_ne (by omega), Array.getElem?_setIfInBounds_ne (by omega), Array.getElem?_setIfInBounds_ne (by omega)]
      exact this
    · have hjl := (List.getElem?_eq_some_iff.1 hj).1
      simp at hjl
      obtain rfl : j = ws.length := by omega
      rw [List.getElem?_append_right (Nat.le_refl _), Nat.sub_self] at hj
      simp at hj
      subst hj
      refine ⟨?_, ?_⟩
      · rw [Array.getElem?_setIfInBounds_ne (by omega), Array.getElem?_setIfInBounds_self_of_lt (by rw [hs]; omega)]
      · rw [Array.getElem?_setIfInBounds_self_of_lt (by simp; omega)]
theorem WRaw.count {w : World} {b R : Nat} {ws : List Wd} {n c f : Nat} (h : WRaw w b R ws n c f) (c' : Nat) : WRaw (w.setCell ⟨b, 1, none⟩ (.int .i64 c')) b R ws n c' f := by
  obtain ⟨cs, h0, hs, hr, hc, hf, ha, hw⟩ := h.blk
  refine ⟨⟨_, blk_setCell h0 _ _, by simp [hs], ?_, ?_, ?_, ?_, ?_⟩, h.most⟩
  · rw [Array.getElem?_setIfInBounds_ne (by omega)]; exact hr
  · rw [Array.getElem?_setIfInBounds_self_of_lt (by omega)]
  · rw [Array.getElem?_setIfInBounds_ne (by omega)]; exact hf
  · rw [Array.getElem?_setIfInBounds_ne (by omega)]; exact ha
  · intro j p hj
    rw [Array.getElem?_setIfInBounds_ne (by omega), Array.getElem?_setIfInBounds_ne (by omega)]
    exact hw j p hj
theorem WRaw.filt {w : World} {b R : Nat} {ws : List Wd} {n c f : Nat} (h : WRaw w b R ws n c f) (f' : Nat) : WRaw (w.setCell ⟨b, 66, none⟩ (.int .u64 f')) b R ws n c f' := by
  obtain ⟨cs, h0, hs, hr, hc, hf, ha, hw⟩ := h.blk
  have hm := h.most
  refine ⟨⟨_, blk_setCell h0 _ _, by simp [hs], ?_, ?_, ?_, ?_, ?_⟩, h.most⟩
  · rw [Array.getElem?_setIfInBounds_ne (by omega)]; exact hr
  · rw [Array.getElem?_setIfInBounds_ne (by omega)]; exact hc
  · rw [Array.getElem?_setIfInBounds_self_of_lt (by omega)]
  · rw [Array.getElem?_setIfInBounds_ne (by omega)]; exact ha
  · intro j p hj
    have := (List.getElem?_eq_some_iff.1 hj).1
    rw [Array.getElem?_setIfInBounds_ne (by omega), Array.getElem?_setIfInBounds_ne (by omega)]
    exact hw j p hj
theorem WSet.fresh {w : World} {b : Nat} (R : Nat) (hR : R ≤ 32) (cs : Array Value) (hb : w.heap[b]? = some (.cells cs 150 (0, 0))) (hs : cs.size = 68) (h0 : cs[0]? = some (.int .i64 R)) (h1 : cs[1]? = some (.int .i64 0))
    (h2 : cs[66]? = some (.int .u64 0)) (h3 : cs[67]? = some (.int .i64 0)) : WSet w b R [] 0 :=
  ⟨⟨cs, hb, hs, h0, h1, h2, h3, by simp⟩, hR, Nat.zero_le _, fun p h => by simp at h⟩

end Go.Proofs.Ytjfinnjmcnjciaa
