/-
  What an At's method Error tells: its places, and what is behind.
-/
import Derived.Test.YtbobjhadckeieaaDoorChn
import Derived.Test.YtbobjhadckeieaaDoorText
import Derived.Test.YtbobjhadckeieaaDoorBldr
namespace Go.Proofs.YtbobjhadckeieaaDoor
open Go.RowKit
set_option linter.unusedVariables false

/-- strconv.Itoa at z, in each later world. -/
def ItoaAt (w : World) (z : Int) : Prop := (Lib.itoa z).length ≤ 21 ∧ ∀ W, Below w.heap.size w W → Calls Tryd.prog 45 #[.int .i64 z] W fun e w' => e = .returned (.string (bsOf (Lib.itoa z))) ∧ Below W.heap.size W w'
/-- One place in words. -/
def partL (t p : Int) : List UInt8 := [116, 104, 114, 101, 97, 100, 32] ++ Lib.itoa t ++ [44, 32, 112, 108, 97, 99, 101, 32] ++ Lib.itoa p ++ [58, 32]
def partsL (tf pf : Nat → Int) (k : Nat) : List UInt8 := (List.range k).flatMap fun j => partL (tf j) (pf j)
theorem partsL_succ (tf pf : Nat → Int) (k : Nat) : partsL tf pf (k + 1) = partsL tf pf k ++ partL (tf k) (pf k) := by simp [partsL, List.range_succ]
theorem partL_len {t p : Int} (h1 : (Lib.itoa t).length ≤ 21) (h2 : (Lib.itoa p).length ≤ 21) : (partL t p).length ≤ 60 := by
  simp only [partL, List.length_append, List.length_cons, List.length_nil]
  omega
/-- The Ats' numbers. -/
def PlacesAt (w : World) (ks : List (Nat × Addr)) (tf pf : Nat → Int) : Prop := ∀ j, j + 1 < ks.length → ∃ b x, ks[j]? = some (51, ⟨b, 0, none⟩) ∧ AtAt w b (tf j) (pf j) x

theorem AtAt.facts2 {w : World} {b : Nat} {t p : Int} {e : Value} (h : AtAt w b t p e) : (w.cell? ⟨b, 0, none⟩ = some (.int .i64 t) ∧ w.cell? ⟨b, 1, none⟩ = some (.int .i64 p) ∧ w.cell? ⟨b, 2, none⟩ = some e) ∧ ∀ i, w.frozen? ⟨b, i, none⟩ = false :=
  ⟨⟨cell_of_blk h 0, cell_of_blk h 1, cell_of_blk h 2⟩, fun i => frozen_of_blk h i⟩
set_option maxRecDepth 100000 in
set_option maxHeartbeats 4000000 in
theorem Error_any {w : World} {ks : List (Nat × Addr)} (hc : Chain w ks) (h2 : 2 ≤ ks.length) (hn : ks.length ≤ 100) {b0 : Nat} (hb0 : ks[0]? = some (51, ⟨b0, 0, none⟩)) (tf pf : Nat → Int) (hp : PlacesAt w ks tf pf)
    {bl : Addr} (hl : ks.getD (ks.length - 1) k0 = (167, bl)) (sl : List UInt8) (hS : StrAt w bl (bsOf sl)) (hsl : sl.length ≤ 100) (hI : ∀ j, j + 1 < ks.length → ItoaAt w (tf j) ∧ ItoaAt w (pf j)) :
    Calls Tryd.prog 20 #[.pointer (some ⟨b0, 0, none⟩)] w fun e w' => e = .returned (.string (bsOf (partsL tf pf (ks.length - 1) ++ sl))) ∧ Below w.heap.size w w' := by
  have HCH : Hid (Calls Tryd.prog 43 #[.pointer (some ⟨b0, 0, none⟩)] w fun e w' => ∃ lv, e = .returned (.tuple #[lv, errV 167 bl]) ∧ w'.ownsRow w.heap.size 51 1 lv (ks.length - 1) ((ks.take (ks.length - 1)).map ptrOf) ∧ Below w.heap.size w w') := hid (by
    refine (chain_any hc h2 hb0).mono fun e w' h => ?_
    unfold ChnRet at h
    rw [hl] at h
    exact h)
  have HP := hid hp
  have HI := hid hI
  have HS := hid hS
  have HL := hid hl
  have hpl : ∀ k, k + 1 ≤ ks.length → (partsL tf pf k).length ≤ k * 60 := by
    intro k
    induction k with
    | zero => intro _; simp [partsL]
    | succ k ih =>
      intro hk
      have h1 := ih (by omega)
      obtain ⟨i1, i2⟩ := hI k (by omega)
      have := partL_len i1.1 i2.1
      rw [partsL_succ, List.length_append]
      omega
  have HPL := hid hpl
  clear hc hp hI hS hl hpl hb0
  go_enter Tryd.func20, Tryd.ntmps20
  go_upto_region 2 with (go_at_call 43; (with_reducible refine HCH.out.mono ?_); rintro e w1 ⟨lv, rfl, hrow, hb1⟩; have HR := hid hrow; have HB1 := hid hb1; clear hrow hb1)
  obtain ⟨g, cap, rfl, _, _⟩ := World.ownsRow.form HR.out (by omega)
  have hgl := (ownsRow_block HR.out rfl).2
  have hgl2 : g < w1.heap.size := by obtain ⟨_, _, h⟩ := hgl; exact lt_of_block h
  clear hgl
  have HI0 := hid (Lib.IsBuilderF.of (Lib.fresh_isBuilder 95 5 w1))
  go_wp2_with fail
  go_loopw [15] (fun iv wr => ∃ j : Nat, j ≤ ks.length - 1 ∧ iv = .int .i64 j ∧ Lib.IsBuilderF 95 5 w1.heap.size w1.heap.size (Lib.byteCells (partsL tf pf j)) wr ∧ Below w1.heap.size w1 wr) (fun iv _ => ks.length - 1 - (intOf iv).toNat)
  case atStart => exact ⟨0, Nat.zero_le _, rfl, HI0.out, bnew (bid w1) _⟩
  case round =>
    clear HI0
    obtain ⟨j, hj, rfl, hbu, hb⟩ := hrel
    have HU0 := hid hbu
    have HB0 := hid hb
    clear hbu hb
    by_cases hlt : j < ks.length - 1
    · obtain ⟨b, x, hkb, hat⟩ := HP.out j (by omega)
      obtain ⟨i1, i2⟩ := HI.out j (by omega)
      have hpj := HPL.out j (by omega)
      have cg : wr.cell? ⟨g, j, none⟩ = some (.pointer (some ⟨b, 0, none⟩)) := by
        refine (HB0.out.cell (p := ⟨g, j, none⟩) hgl2).trans ((HR.out.cellAt j (by omega)).trans ?_)
        rw [List.getElem?_map, List.getElem?_take, if_pos hlt, hkb]
        rfl
      have HAT := hid (fun W (hW : Below w1.heap.size w1 W) => (hat.kept (Wrote.of_below HB1.out (fun _ => False)) fun h => h).kept (Wrote.of_below hW (fun _ => False)) fun h => h)
      have HI1 := hid (fun W (hW : Below w1.heap.size w1 W) => i1.2 W (bthen HB1.out hW))
      have HI2 := hid (fun W (hW : Below w1.heap.size w1 W) => i2.2 W (bthen HB1.out hW))
      have HN1 := hid i1.1
      have HN2 := hid i2.1
      have HLN : Hid (∀ (m1 m2 : Nat), m1 + m2 ≤ m1 + m2 → True) := hid (fun _ _ _ => trivial)
      have HPJ := hid hpj
      have HPS := hid (partsL_succ tf pf j)
      generalize tf j = t at *
      generalize pf j = p at *
      generalize partsL tf pf j = cur at *
      clear hat i1 i2 hpj hkb HLN
      go_upto_region 7 with (go_at_call 44; refine (WriteString_any w1.heap.size w1.heap.size (Lib.byteCells (cur)) ([116, 104, 114, 101, 97, 100, 32]) _ HU0.out (by simp only [Lib.byteCells_length, List.length_append, List.length_cons, List.length_nil]; have h1 := HPJ.out; have h2 := HN1.out; have h3 := HN2.out; omega) HB0.out.size).mono ?_; rintro e w2 ⟨rfl, hu, hb⟩; rw [← Lib.byteCells_append] at hu; have HU2 := hid hu; have HB2 := hid (HB0.out.trans hb); clear hu hb)
      obtain ⟨⟨a0, a1, a2⟩, af⟩ := (HAT.out _ HB2.out).facts2
      go_upto_region 8 with (first | (go_at_call 45; (with_reducible refine (HI1.out _ HB2.out).mono ?_); rintro e w3 ⟨rfl, hb⟩; have HU3 := hid (builder_later HU2.out hb); have HB3 := hid (bthen HB2.out hb); clear hb) | (go_at_call 44; refine (WriteString_any w1.heap.size w1.heap.size (Lib.byteCells (cur ++ [116, 104, 114, 101, 97, 100, 32])) (Lib.itoa t) _ HU3.out (by simp only [Lib.byteCells_length, List.length_append, List.length_cons, List.length_nil]; have h1 := HPJ.out; have h2 := HN1.out; have h3 := HN2.out; omega) HB3.out.size).mono ?_; rintro e w4 ⟨rfl, hu, hb⟩; rw [← Lib.byteCells_append] at hu; have HU4 := hid hu; have HB4 := hid (HB3.out.trans hb); clear hu hb))
      clear a0 a1 a2 af
      go_upto_region 9 with (go_at_call 44; refine (WriteString_any w1.heap.size w1.heap.size (Lib.byteCells (cur ++ [116, 104, 114, 101, 97, 100, 32] ++ Lib.itoa t)) ([44, 32, 112, 108, 97, 99, 101, 32]) _ HU4.out (by simp only [Lib.byteCells_length, List.length_append, List.length_cons, List.length_nil]; have h1 := HPJ.out; have h2 := HN1.out; have h3 := HN2.out; omega) HB4.out.size).mono ?_; rintro e w5 ⟨rfl, hu, hb⟩; rw [← Lib.byteCells_append] at hu; have HU5 := hid hu; have HB5 := hid (HB4.out.trans hb); clear hu hb)
      obtain ⟨⟨a0, a1, a2⟩, af⟩ := (HAT.out _ HB5.out).facts2
      go_upto_region 10 with (first | (go_at_call 45; (with_reducible refine (HI2.out _ HB5.out).mono ?_); rintro e w6 ⟨rfl, hb⟩; have HU6 := hid (builder_later HU5.out hb); have HB6 := hid (bthen HB5.out hb); clear hb) | (go_at_call 44; refine (WriteString_any w1.heap.size w1.heap.size (Lib.byteCells (cur ++ [116, 104, 114, 101, 97, 100, 32] ++ Lib.itoa t ++ [44, 32, 112, 108, 97, 99, 101, 32])) (Lib.itoa p) _ HU6.out (by simp only [Lib.byteCells_length, List.length_append, List.length_cons, List.length_nil]; have h1 := HPJ.out; have h2 := HN1.out; have h3 := HN2.out; omega) HB6.out.size).mono ?_; rintro e w7 ⟨rfl, hu, hb⟩; rw [← Lib.byteCells_append] at hu; have HU7 := hid hu; have HB7 := hid (HB6.out.trans hb); clear hu hb))
      clear a0 a1 a2 af
      go_wp2_with (go_at_call 44; refine (WriteString_any w1.heap.size w1.heap.size (Lib.byteCells (cur ++ [116, 104, 114, 101, 97, 100, 32] ++ Lib.itoa t ++ [44, 32, 112, 108, 97, 99, 101, 32] ++ Lib.itoa p)) ([58, 32]) _ HU7.out (by simp only [Lib.byteCells_length, List.length_append, List.length_cons, List.length_nil]; have h1 := HPJ.out; have h2 := HN1.out; have h3 := HN2.out; omega) HB7.out.size).mono ?_; rintro e w8 ⟨rfl, hu, hb⟩; rw [← Lib.byteCells_append] at hu; have HU8 := hid hu; have HB8 := hid (HB7.out.trans hb); clear hu hb)
      go_roundw
      case rel =>
        refine ⟨j + 1, by omega, by go_num, ?_, HB8.out⟩
        rw [HPS.out]
        have h := HU8.out
        simp only [List.append_assoc] at h
        simp only [partL, List.append_assoc]
        exact h
      case measure => simp [intOf]; omega
    · obtain rfl : j = ks.length - 1 := by omega
      have HST := hid (HS.out.below (bthen HB1.out HB0.out))
      have hpn := HPL.out (ks.length - 1) (by omega)
      generalize hcur : partsL tf pf (ks.length - 1) = cur at hpn HU0
      have HCUR := hid hcur
      clear hcur
      have HPN : Hid (cur.length ≤ 6000) := hid (by omega)
      go_wp2_with (first | (go_at_call 21; (with_reducible refine (Text_str HST.out).mono ?_); rintro e w2 ⟨rfl, hb⟩; have HU2 := hid (builder_later HU0.out hb); have HB2 := hid (bthen HB0.out hb); clear hb) | (go_at_call 44; refine (WriteString_any w1.heap.size w1.heap.size (Lib.byteCells cur) sl _ HU2.out (by simp only [Lib.byteCells_length]; have h1 := HPN.out; omega) HB2.out.size).mono ?_; rintro e w3 ⟨rfl, hu, hb⟩; rw [← Lib.byteCells_append] at hu; have HU3 := hid hu; have HB3 := hid (HB2.out.trans hb); clear hu hb) | (go_at_call 46; refine (Tryd.Builder_String_any_k w1.heap.size w1.heap.size (cur ++ sl) _ HU3.out HB3.out.size).mono ?_; rintro e w5 ⟨rfl, _, hb5, _⟩; have HB5 := hid (HB3.out.trans hb5); clear hb5))
      go_ret
      exact ⟨by rw [HCUR.out]; rfl, bthen HB1.out HB5.out⟩

end Go.Proofs.YtbobjhadckeieaaDoor
