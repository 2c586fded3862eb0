/-
  Layer 6's Prog and Build: programs, and what a run begins with, out of numbers.
-/
import Derived.Test.YtblalejegjieaaaGreatDoorKPiece2
import Derived.Test.YtblalejegjieaaaGreatDoorKStd
import Derived.Deep.RegionHeld3
namespace Go.Proofs.YtblalejegjieaaaGreatDoor
open Go.RowKit
set_option linter.unusedVariables false

def progGo : List Int → List Ins → List Ins
  | [], p => p
  | x :: r, p => if p.length < 34 then progGo r (p ++ pieceF x) else p
theorem progGo_yes {x : Int} {r : List Int} {p : List Ins} (h : p.length < 34) : progGo (x :: r) p = progGo r (p ++ pieceF x) := if_pos h
theorem progGo_no {l : List Int} {p : List Ins} (h : ¬ p.length < 34) : progGo l p = p := by
  cases l with
  | nil => rfl
  | cons x r => exact if_neg h
def prog6F (zs : List Int) : List Ins := progGo zs [⟨1, 1, 0, 0, 1⟩]
theorem ite_len {c : Prop} [Decidable c] {A B : List Ins} {n : Nat} (h1 : A.length ≤ n) (h2 : B.length ≤ n) : (if c then A else B).length ≤ n := by split <;> assumption
theorem pieceL_len (r q l d e : Int) : (pieceL r q l d e).length ≤ 10 := ite_len (Nat.le_of_ble_eq_true rfl) (ite_len (Nat.le_of_ble_eq_true rfl) (ite_len (Nat.le_of_ble_eq_true rfl) (ite_len (Nat.le_of_ble_eq_true rfl) (ite_len (Nat.le_of_ble_eq_true rfl) (ite_len (Nat.le_of_ble_eq_true rfl) (ite_len (Nat.le_of_ble_eq_true rfl) (ite_len (Nat.le_of_ble_eq_true rfl) (ite_len (Nat.le_of_ble_eq_true rfl) (ite_len (Nat.le_of_ble_eq_true rfl) (ite_len (Nat.le_of_ble_eq_true rfl) (ite_len (Nat.le_of_ble_eq_true rfl) (Nat.le_of_ble_eq_true rfl))))))))))))
theorem pieceF_len (x : Int) : (pieceF x).length ≤ 10 := pieceL_len _ _ _ _ _

set_option maxRecDepth 100000 in
set_option maxHeartbeats 4000000 in
theorem prog6_any (a : Option Addr) (n c : Nat) (zs : List Int) (w : World) (hr : IntRow w a n zs) (hn : n ≤ 1000000) :
    Calls Tryz.prog 13 #[.slice a n c] w (InsRet (prog6F zs) w) := by
  obtain ⟨iI, hi, hz0, hz1, hz2⟩ := info_parts infoIns
  have HR := hid hr
  have HL := hid (OwnIns.lit [⟨1, 1, 0, 0, 1⟩] 1 w (insCells [⟨1, 1, 0, 0, 1⟩]).toArray w.heap.size rfl rfl (Nat.le_refl _) (by decide))
  clear hr
  go_enter Tryz.func13, Tryz.ntmps13
  go_wp2
  go_loopw [3, 4] (fun v i wr => ∃ (k : Nat) (ps : List Ins), k ≤ n ∧ i = .int .i64 k ∧ prog6F zs = progGo (zs.drop k) ps ∧ ps.length ≤ 43 ∧ OwnIns w.heap.size v ps wr ∧ Below w.heap.size w wr) (fun _ i _ => n - (intOf i).toNat)
  case atStart => exact ⟨0, _, Nat.zero_le _, rfl, rfl, by simp, HL.out, bnew (bid w) _⟩
  case round =>
    obtain ⟨k, ps, hk, rfl, hgo, hpl, how, hb⟩ := hrel
    obtain ⟨va, vc, rfl, -⟩ := how.shape
    have HGO := hid hgo
    have HO := hid how
    have HB := hid hb
    clear hgo how hb HL
    by_cases hlt : k < n
    · obtain ⟨b, off, rfl, hbl, hcell⟩ := HR.out.at (by omega)
      have hz := (World.cell?_of_block (a := ⟨b, off + k, none⟩) (HB.out.block b hbl)).trans (hcell k hlt)
      have hzl : k < zs.length := by rw [HR.out.1]; exact hlt
      have HD := hid (show zs.drop k = zs.getD k 0 :: zs.drop (k + 1) by rw [List.drop_eq_getElem_cons hzl]; simp [List.getD, hzl])
      generalize zs.getD k 0 = z at hz HD
      have i0 : (0 : Int) ≤ (k : Int) := by omega
      have i1 : (k : Int) < ((n : Nat) : Int) := by omega
      clear hcell
      by_cases h34 : ps.length < 34
      · have e34 : (ps.length : Int) < 34 := by omega
        have HN := hid (HGO.out.trans ((congrArg (fun l => progGo l ps) HD.out).trans (progGo_yes h34)))
        have HPL := hid (pieceF_len z)
        go_wp2_with (first | (go_at_call 30; refine (piece_any _ _).mono ?_; rintro e w1 ⟨v1, rfl, ho1, hb1⟩; obtain ⟨sa, sc, rfl, hsr, hsn⟩ := ho1.shapeN _ rfl; have HSR := hid hsr; have HSN := hid hsn; have HB1 := hid hb1; clear ho1 hsr hsn hb1) | (at_builtin; go_must (refine wpList_append_insRow rfl (.tmp 18) (.tmp 23) 38 rfl Tryz.underlying38 hi hz0 rfl hz1 hz2 rfl (HO.out.below HB1.out) rfl HSR.out HSN.out (by have := HPL.out; omega) (Nat.le_trans HB.out.size HB1.out.size) ?_; intro v2 w2 hown hat hw; have HO2 := hid hown; have HB2 := hid (own_below (HB.out.trans (HB1.out.mono HB.out.size)) (HO.out.below HB1.out) (Nat.le_trans HB.out.size HB1.out.size) hw); clear hown hat hw)))
        go_roundw
        case rel => exact ⟨k + 1, _, by omega, by go_num, HN.out, by have := HPL.out; simp; omega, HO2.out, HB2.out⟩
        case measure => simp [intOf]; omega
      · have e34 : ¬ (ps.length : Int) < 34 := by omega
        have HN := hid (HGO.out.trans (progGo_no h34))
        go_wp2
        go_ret
        exact ⟨_, rfl, by rw [HN.out]; exact HO.out, HB.out⟩
    · have e : k = n := by omega
      subst e
      clear hlt
      have HN := hid (HGO.out.trans (show progGo (zs.drop k) ps = ps by rw [List.drop_eq_nil_of_le (by rw [HR.out.1]; exact Nat.le_refl _)]; rfl))
      go_wp2
      go_ret
      exact ⟨_, rfl, by rw [HN.out]; exact HO.out, HB.out⟩

end Go.Proofs.YtblalejegjieaaaGreatDoor
