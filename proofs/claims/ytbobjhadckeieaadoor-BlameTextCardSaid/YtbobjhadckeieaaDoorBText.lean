/-
  BlameText, walked.
-/
import Derived.Test.YtbobjhadckeieaaDoorBLChain
import Derived.Test.YtbobjhadckeieaaDoorDecA
namespace Go.Proofs.YtbobjhadckeieaaDoor
open Go.RowKit
set_option linter.unusedVariables false

theorem grow_below (w : World) (k : Nat) (os : Array Obj) : Below w.heap.size w (Go.Sort.grow (w.drewN k) os) := by
  refine ⟨rfl, rfl, rfl, by simp [Go.Sort.grow, World.drewN], fun j hj => ?_⟩
  show (w.heap ++ os)[j]? = _
  rw [Array.getElem?_append, if_pos hj]
theorem tabIs_below {P : Program} {w w' : World} {name : String} {k : IntKind} {zs : List Int} (h : Lib.TabIs P w name k zs) (hb : Below w.heap.size w w') : Lib.TabIs P w' name k zs := by
  unfold Lib.TabIs World.var? at h ⊢
  cases hg : P.globalNamed name with
  | none => rw [hg] at h; cases h
  | some g =>
    rw [hg] at h
    dsimp only [Option.bind_some] at h ⊢
    have hlt : g < w.heap.size := by
      cases hh : w.heap[g]? with
      | none => rw [hh] at h; cases h
      | some o => exact (Array.getElem?_eq_some_iff.1 hh).1
    rw [hb.block g hlt]
    exact h
def In64 (z : Int) : Prop := -9223372036854775808 ≤ z ∧ z ≤ 9223372036854775807
theorem itoa_at {z : Int} (h : In64 z) {w : World} (ht : Lib.TabIs Tryd.prog w "internal/strconv.uint64pow10" .u64 Lib.pow10Tab) : ItoaAt w z :=
  ⟨itoa_len z h.1 h.2, fun W hW => (Tryd.strconv_Itoa z h.1 h.2 W (tabIs_below ht hW)).mono (by rintro e w' ⟨rfl, k, os, rfl⟩; exact ⟨rfl, grow_below _ _ _⟩)⟩

theorem codeText_itoa (c : Nat) (h1 : 1 ≤ c) (h2 : c ≤ 10) : codeText c = [99, 111, 100, 101, 32] ++ Lib.itoa (c : Int) := by
  rw [Lib.itoa_nonneg]
  by_cases h : c = 10
  · subst h
    rw [Lib.decDigits, dif_neg (by decide), Lib.decDigits_one (by decide)]
    decide
  · rw [Lib.decDigits_one (by omega)]
    unfold codeText
    rw [if_neg h]
    have : c = 1 ∨ c = 2 ∨ c = 3 ∨ c = 4 ∨ c = 5 ∨ c = 6 ∨ c = 7 ∨ c = 8 ∨ c = 9 := by omega
    rcases this with rfl | rfl | rfl | rfl | rfl | rfl | rfl | rfl | rfl <;> decide
theorem bs_app (a b : List UInt8) : (⟨a.toArray⟩ : ByteArray) ++ (⟨b.toArray⟩ : ByteArray) = ⟨(a ++ b).toArray⟩ := bsOf_append a b
theorem part_bytes (s d1 d2 : List UInt8) :
    bsOf s ++ (((({ data := #[116, 104, 114, 101, 97, 100, 32] } : ByteArray) ++ bsOf d1) ++ ({ data := #[44, 32, 112, 108, 97, 99, 101, 32] } : ByteArray) ++ bsOf d2) ++ ({ data := #[58, 32] } : ByteArray)) = bsOf (s ++ ([116, 104, 114, 101, 97, 100, 32] ++ d1 ++ [44, 32, 112, 108, 97, 99, 101, 32] ++ d2 ++ [58, 32])) := by
  have e1 : ({ data := #[116, 104, 114, 101, 97, 100, 32] } : ByteArray) = bsOf [116, 104, 114, 101, 97, 100, 32] := rfl
  have e2 : ({ data := #[44, 32, 112, 108, 97, 99, 101, 32] } : ByteArray) = bsOf [44, 32, 112, 108, 97, 99, 101, 32] := rfl
  have e3 : ({ data := #[58, 32] } : ByteArray) = bsOf [58, 32] := rfl
  rw [e1, e2, e3, bsOf_append, bsOf_append, bsOf_append, bsOf_append, bsOf_append]
theorem code_bytes (s d : List UInt8) : bsOf s ++ (({ data := #[99, 111, 100, 101, 32] } : ByteArray) ++ bsOf d) = bsOf (s ++ ([99, 111, 100, 101, 32] ++ d)) := by
  have e1 : ({ data := #[99, 111, 100, 101, 32] } : ByteArray) = bsOf [99, 111, 100, 101, 32] := rfl
  rw [e1, bsOf_append, bsOf_append]

/-- Every place's numbers fit. -/
def AllIn (zs : List (Int × Int)) : Prop := ∀ z ∈ zs, In64 z.1 ∧ In64 z.2
theorem AllIn.get {zs : List (Int × Int)} (h : AllIn zs) (j : Nat) : In64 (tfF zs 0 j) ∧ In64 (pfF zs 0 j) := by
  unfold tfF pfF
  rw [Nat.zero_add]
  by_cases hj : j < zs.length
  · have := h zs[j] (List.getElem_mem hj)
    simpa [List.getD, hj] using this
  · have e : zs.getD j (0, 0) = (0, 0) := by simp [List.getD, Nat.le_of_not_lt hj]
    rw [e]
    exact ⟨⟨by decide, by decide⟩, ⟨by decide, by decide⟩⟩
theorem AllIn.len {zs : List (Int × Int)} (h : AllIn zs) : ∀ k, (partsL (tfF zs 0) (pfF zs 0) k).length ≤ k * 60 := by
  intro k
  induction k with
  | zero => simp [partsL]
  | succ k ih =>
    obtain ⟨i1, i2⟩ := h.get k
    have := partL_len (itoa_len _ i1.1 i1.2) (itoa_len _ i2.1 i2.2)
    rw [partsL_succ, List.length_append]
    omega

/-- The text that the law makes. -/
def wholeL (zs : List (Int × Int)) (n c : Nat) : List UInt8 := partsL (tfF zs 0) (pfF zs 0) n ++ codeText c

theorem text1 {w : World} {sb : Nat → Addr} {c n : Nat} (h1 : 1 ≤ c) (h2 : c ≤ 10) {ks : List (Nat × Addr)} {zs : List (Int × Int)} {T : Nat} {b : Addr} (hE : Ers sb w) (h : Err w sb c ks (tfF zs 0) (pfF zs 0)) (hk : ks.getD 0 k0 = (T, b)) (hl : ks.length = n + 1) (hn : n ≤ 20) (hz : AllIn zs)
    (ht : Lib.TabIs Tryd.prog w "internal/strconv.uint64pow10" .u64 Lib.pow10Tab) :
    Calls Tryd.prog 21 #[errV T b] w fun e w' => e = .returned (.string (bsOf (wholeL zs n c))) ∧ Below w.heap.size w w' := by
  rcases Nat.eq_zero_or_pos n with rfl | hp
  · have hla := h.last
    rw [hl] at hla
    rw [hla] at hk
    obtain ⟨rfl, rfl⟩ := Prod.mk.inj hk
    have := Text_str (hE.txt c h1 h2)
    exact this.mono fun e w' hh => ⟨hh.1.trans rfl, hh.2⟩
  · have := Text_err hE h1 h2 h (by omega) (by omega) (fun j hj => ⟨itoa_at (hz.get j).1 ht, itoa_at (hz.get j).2 ht⟩)
    rw [hk, hl, Nat.add_sub_cancel] at this
    exact this
theorem error1 {w : World} {sb : Nat → Addr} {c n : Nat} (h1 : 1 ≤ c) (h2 : c ≤ 10) {ks : List (Nat × Addr)} {zs : List (Int × Int)} {b : Nat} (hE : Ers sb w) (h : Err w sb c ks (tfF zs 0) (pfF zs 0)) (hk : ks[0]? = some (51, ⟨b, 0, none⟩)) (hl : ks.length = n + 1) (hp : 0 < n) (hn : n ≤ 20) (hz : AllIn zs)
    (ht : Lib.TabIs Tryd.prog w "internal/strconv.uint64pow10" .u64 Lib.pow10Tab) :
    Calls Tryd.prog 20 #[.pointer (some ⟨b, 0, none⟩)] w fun e w' => e = .returned (.string (bsOf (wholeL zs n c))) ∧ Below w.heap.size w w' := by
  have := Error_any h.chain (by omega) (by omega) hk (tfF zs 0) (pfF zs 0) h.places h.last (codeText c) (hE.txt c h1 h2) (by unfold codeText; split <;> simp) (fun j hj => ⟨itoa_at (hz.get j).1 ht, itoa_at (hz.get j).2 ht⟩)
  rw [hl, Nat.add_sub_cancel] at this
  exact this

end Go.Proofs.YtbobjhadckeieaaDoor
