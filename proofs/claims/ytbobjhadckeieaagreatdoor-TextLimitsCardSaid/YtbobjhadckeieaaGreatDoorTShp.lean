/-
  Lines: the table of shapes, an instruction's line, a line's instruction: the plain functions.
-/
import Derived.Test.YtbobjhadckeieaaGreatDoorTIns
import Derived.Test.YtbobjhadckeieaaGreatDoorTCut
namespace Go.Proofs.YtbobjhadckeieaaGreatDoor
open Go.RowKit
set_option linter.unusedVariables false

structure Shp where
  word : List UInt8
  op : Int
  b : Int
  fields : List UInt8
def shps : List Shp := [
  ⟨[115, 101, 116], 1, 0, [65, 78]⟩,
  ⟨[97, 100, 100], 2, 0, [65, 66, 67]⟩,
  ⟨[115, 117, 98], 3, 0, [65, 66, 67]⟩,
  ⟨[109, 117, 108], 4, 0, [65, 66, 67]⟩,
  ⟨[120, 111, 114], 5, 0, [65, 66, 67]⟩,
  ⟨[108, 101, 115, 115], 6, 0, [65, 66, 67]⟩,
  ⟨[115, 97, 109, 101], 7, 0, [65, 66, 67]⟩,
  ⟨[108, 111, 97, 100], 8, 0, [65, 66, 78]⟩,
  ⟨[115, 116, 111, 114, 101], 9, 0, [65, 66, 78]⟩,
  ⟨[116, 97, 107, 101], 10, 0, [66, 78]⟩,
  ⟨[103, 105, 118, 101], 11, 0, [66, 78]⟩,
  ⟨[108, 111, 103], 12, 0, [65]⟩,
  ⟨[101, 110, 116, 101, 114], 13, 0, [65]⟩,
  ⟨[114, 101, 97, 100], 13, 1, [65]⟩,
  ⟨[108, 101, 97, 118, 101], 14, 0, []⟩,
  ⟨[119, 97, 105, 116], 15, 0, [65]⟩,
  ⟨[115, 105, 103, 110, 97, 108], 16, 0, [65]⟩,
  ⟨[99, 97, 115, 116], 17, 0, [65]⟩,
  ⟨[105, 102], 18, 0, [65]⟩,
  ⟨[101, 108, 115, 101], 19, 0, []⟩,
  ⟨[101, 110, 100], 20, 0, []⟩,
  ⟨[108, 111, 111, 112], 21, 0, [65]⟩,
  ⟨[98, 97, 99, 107], 22, 0, []⟩]
def Shp.cs (s : Shp) : List Value := [.string (bsOf s.word), .int .i64 s.op, .int .i64 s.b, .string (bsOf s.fields)]
@[reducible] def Shp.v (s : Shp) : Value := .agg #[.string (bsOf s.word), .int .i64 s.op, .int .i64 s.b, .string (bsOf s.fields)]
def shapesCs : Array Value := (shps.flatMap Shp.cs).toArray
theorem shps_len : shps.length = 23 := rfl
theorem shps_fields : ∀ s ∈ shps, s.fields.length ≤ 3 ∧ ∀ f ∈ s.fields, f = 65 ∨ f = 66 ∨ f = 67 ∨ f = 78 := by decide
theorem shps_words : ∀ s ∈ shps, 32 ∉ s.word ∧ 10 ∉ s.word ∧ s.word ≠ [] := by decide
theorem shps_short : ∀ s ∈ shps, s.word.length ≤ 6 := by decide
theorem shps_at (k : Nat) (h : k < 23) : ∃ s, shps[k]? = some s ∧ s ∈ shps := by
  have hl : k < shps.length := by rw [shps_len]; exact h
  exact ⟨shps[k], List.getElem?_eq_getElem hl, List.getElem_mem hl⟩
theorem shapesCs_size : shapesCs.size = 92 := rfl
theorem shapesCs_at : ∀ k : Nat, k < 23 → ∀ s, shps[k]? = some s → shapesCs.extract (k * 4) (k * 4 + 4) = #[.string (bsOf s.word), .int .i64 s.op, .int .i64 s.b, .string (bsOf s.fields)] := by
  intro k hk s hs
  have : k = 0 ∨ k = 1 ∨ k = 2 ∨ k = 3 ∨ k = 4 ∨ k = 5 ∨ k = 6 ∨ k = 7 ∨ k = 8 ∨ k = 9 ∨ k = 10 ∨ k = 11 ∨ k = 12 ∨ k = 13 ∨ k = 14 ∨ k = 15 ∨ k = 16 ∨ k = 17 ∨ k = 18 ∨ k = 19 ∨ k = 20 ∨ k = 21 ∨ k = 22 := by omega
  rcases this with rfl | rfl | rfl | rfl | rfl | rfl | rfl | rfl | rfl | rfl | rfl | rfl | rfl | rfl | rfl | rfl | rfl | rfl | rfl | rfl | rfl | rfl | rfl
  all_goals
    cases hs
    rfl

def getF (i : Ins) (f : UInt8) : Int := if f = 65 then i.a else if f = 66 then i.b else if f = 67 then i.c else i.n
def putF (i : Ins) (f : UInt8) (v : Int) : Ins := if f = 65 then { i with a := v } else if f = 66 then { i with b := v } else if f = 67 then { i with c := v } else { i with n := v }
def hasB (fs : List UInt8) : Bool := decide (0 ≤ Lib.indexByte fs 66)
def sfits (s : Shp) (i : Ins) : Bool := (s.op == i.op) && ((s.b == i.b) || hasB s.fields)
def tailF (i : Ins) (fs : List UInt8) : List UInt8 := fs.flatMap fun f => 32 :: Lib.itoa (getF i f)
def spellL (i : Ins) : List UInt8 := match shps.find? (fun s => sfits s i) with | some s => s.word ++ tailF i s.fields | none => []
def lineL (i : Ins) : List UInt8 := if mayB i = true then spellL i else []

/-- An N within an int64. -/
def nOk (n : Int) : Prop := -9223372036854775808 ≤ n ∧ n ≤ 9223372036854775807
theorem nOk.lo {n : Int} (h : nOk n) : -9223372036854775808 ≤ n := h.1
theorem nOk.hi {n : Int} (h : nOk n) : n ≤ 9223372036854775807 := h.2
def Ins.zero : Ins := ⟨0, 0, 0, 0, 0⟩

def fillGo (i : Ins) : List (UInt8 × List UInt8) → Option Ins
  | [] => some i
  | (f, num) :: r => match Lib.parseIntB 64 num with
    | .ok v => fillGo (putF i f v) r
    | _ => none
def filledOf (s : Shp) (nums : List (List UInt8)) : Option Ins := if nums.length = s.fields.length then fillGo ⟨s.op, 0, s.b, 0, 0⟩ (s.fields.zip nums) else none
def instrTry (line : List UInt8) (s : Shp) : Option Ins :=
  if s.word = (cutAt 32 line).headD [] then
    match filledOf s (cutAt 32 line).tail with
    | some i => if mayB i = true ∧ lineL i = line then some i else none
    | none => none
  else none
def instrOf (line : List UInt8) : Option Ins := shps.findSome? (instrTry line)

/-- The program of some lines: the instructions; none, where a line is none. -/
def linesOf : List (List UInt8) → Option (List Ins)
  | [] => some []
  | l :: r => if l = [] then linesOf r else match instrOf l, linesOf r with
    | some i, some ps => some (i :: ps)
    | _, _ => none

theorem fillGo_snoc (i : Ins) (l : List (UInt8 × List UInt8)) (f : UInt8) (num : List UInt8) : fillGo i (l ++ [(f, num)]) = (fillGo i l).bind fun j => fillGo j [(f, num)] := by
  induction l generalizing i with
  | nil => rfl
  | cons p r ih =>
    obtain ⟨g, m⟩ := p
    rw [List.cons_append]
    unfold fillGo
    split
    · exact ih _
    · rfl
theorem tailF_snoc (i : Ins) (fs : List UInt8) (f : UInt8) : tailF i (fs ++ [f]) = tailF i fs ++ 32 :: Lib.itoa (getF i f) := by simp [tailF]
theorem find_snoc {α : Type} (p : α → Bool) (l : List α) (k : Nat) (s : α) (hs : l[k]? = some s) (hn : (l.take k).find? p = none) (hp : p s = false) : (l.take (k + 1)).find? p = none := by
  have hl := (List.getElem?_eq_some_iff.1 hs).1
  rw [List.take_succ_eq_append_getElem hl, List.find?_append, hn]
  have : l[k] = s := (List.getElem?_eq_some_iff.1 hs).2
  simp [this, hp]
theorem find_hit {α : Type} (p : α → Bool) (l : List α) (k : Nat) (s : α) (hs : l[k]? = some s) (hn : (l.take k).find? p = none) (hp : p s = true) : l.find? p = some s := by
  have hl := (List.getElem?_eq_some_iff.1 hs).1
  have he : l = l.take k ++ l[k] :: l.drop (k + 1) := by rw [← List.drop_eq_getElem_cons hl, List.take_append_drop]
  have : l[k] = s := (List.getElem?_eq_some_iff.1 hs).2
  rw [he, List.find?_append, hn, this]
  simp [hp]
theorem findSome_snoc {α β : Type} (p : α → Option β) (l : List α) (k : Nat) (s : α) (hs : l[k]? = some s) (hn : (l.take k).findSome? p = none) (hp : p s = none) : (l.take (k + 1)).findSome? p = none := by
  have hl := (List.getElem?_eq_some_iff.1 hs).1
  have : l[k] = s := (List.getElem?_eq_some_iff.1 hs).2
  rw [List.take_succ_eq_append_getElem hl, List.findSome?_append, hn, this]
  simp [hp]
theorem findSome_hit {α β : Type} (p : α → Option β) (l : List α) (k : Nat) (s : α) (x : β) (hs : l[k]? = some s) (hn : (l.take k).findSome? p = none) (hp : p s = some x) : l.findSome? p = some x := by
  have hl := (List.getElem?_eq_some_iff.1 hs).1
  have he : l = l.take k ++ l[k] :: l.drop (k + 1) := by rw [← List.drop_eq_getElem_cons hl, List.take_append_drop]
  have : l[k] = s := (List.getElem?_eq_some_iff.1 hs).2
  rw [he, List.findSome?_append, hn, this]
  simp [hp]
theorem parse_range {l : List UInt8} {v : Int} (h : Lib.parseIntB 64 l = .ok v) : nOk v := by
  unfold Lib.parseIntB at h
  cases l with
  | nil => cases h
  | cons c r =>
    dsimp only at h
    split at h
    · cases h
    · cases h
    · rename_i u hu
      by_cases hn : c.toNat = 45
      · rw [if_neg (fun h => h.1 hn)] at h
        split at h
        · cases h
        · rename_i h2
          simp only [hn, true_and, Nat.not_lt] at h2
          have h2' : u ≤ 9223372036854775808 := h2
          cases h
          unfold nOk; omega
      · by_cases h1 : 2 ^ (64 - 1) ≤ u
        · rw [if_pos ⟨hn, h1⟩] at h; cases h
        · rw [if_neg (fun h => h1 h.2), if_neg (fun h => hn h.1), if_neg hn] at h
          have h2' : ¬ 9223372036854775808 ≤ u := h1
          cases h
          unfold nOk; omega
theorem putF_n {i : Ins} {f : UInt8} {v : Int} (hi : nOk i.n) (hv : nOk v) : nOk (putF i f v).n := by
  unfold putF
  split
  · exact hi
  · split
    · exact hi
    · split
      · exact hi
      · exact hv

end Go.Proofs.YtbobjhadckeieaaGreatDoor
