/-
  An error put so often, the last place first.
-/
import Derived.Test.YtbobjhadckeieaaDoorBNone
import Derived.Test.YtbobjhadckeieaaDoorPairs
import Derived.Deep.RegionHeld3
import Derived.Deep.DeepCutAuto
namespace Go.Proofs.YtbobjhadckeieaaDoor
open Go.RowKit
set_option linter.unusedVariables false

def codeN (x : Int) : Nat := 1 + (IntKind.u64.wrap x % 10).toNat
theorem codeN_in (x : Int) : 1 ≤ codeN x ∧ codeN x ≤ 10 := by
  have h1 : 0 ≤ IntKind.u64.wrap x % 10 := Int.emod_nonneg _ (by omega)
  have h2 : IntKind.u64.wrap x % 10 < 10 := Int.emod_lt_of_pos _ (by omega)
  unfold codeN
  omega
theorem u64_lo1 (n : Int) : 0 ≤ IntKind.u64.wrap n := by
  simp only [IntKind.wrap, IntKind.signed, Bool.false_and]
  exact Int.emod_nonneg _ (by decide)
theorem u64_hi1 (n : Int) : IntKind.u64.wrap n ≤ 18446744073709551615 := by
  unfold IntKind.wrap
  simp [IntKind.bits, IntKind.signed]
  omega
set_option maxHeartbeats 1000000 in
theorem code_any (x : Int) (w : World) :
    Calls Tryd.prog 14 #[.int .i64 x] w fun e w' => e = .returned (.int .i64 ((codeN x : Nat) : Int)) ∧ w = w' := by
  have b2 : 0 ≤ IntKind.u64.wrap x % 10 := Int.emod_nonneg _ (by omega)
  have b3 : IntKind.u64.wrap x % 10 < 10 := Int.emod_lt_of_pos _ (by omega)
  have b0 := u64_lo1 x
  have b1 := u64_hi1 x
  have HP : Hid (((codeN x : Nat) : Int) = 1 + IntKind.u64.wrap x % 10) := hid (by unfold codeN; omega)
  go_enter Tryd.func14, Tryd.ntmps14
  go_wp2
  go_ret
  exact ⟨by rw [HP.out]; rfl, rfl⟩

def tfF (zs : List (Int × Int)) (j : Nat) : Nat → Int := fun m => (zs.getD (j + m) (0, 0)).1
def pfF (zs : List (Int × Int)) (j : Nat) : Nat → Int := fun m => (zs.getD (j + m) (0, 0)).2
theorem tf_cons (zs : List (Int × Int)) (j : Nat) : consF (zs.getD j (0, 0)).1 (tfF zs (j + 1)) = tfF zs j := by
  funext m
  cases m with
  | zero => rfl
  | succ m =>
    show (zs.getD (j + 1 + m) (0, 0)).1 = (zs.getD (j + (m + 1)) (0, 0)).1
    rw [show j + 1 + m = j + (m + 1) by omega]
theorem pf_cons (zs : List (Int × Int)) (j : Nat) : consF (zs.getD j (0, 0)).2 (pfF zs (j + 1)) = pfF zs j := by
  funext m
  cases m with
  | zero => rfl
  | succ m =>
    show (zs.getD (j + 1 + m) (0, 0)).2 = (zs.getD (j + (m + 1)) (0, 0)).2
    rw [show j + 1 + m = j + (m + 1) by omega]
def ChRet (sb : Nat → Addr) (c n : Nat) (zs : List (Int × Int)) (w : World) (e : Ending) (w' : World) : Prop :=
  ∃ T b ks, e = .returned (errV T b) ∧ ks.getD 0 k0 = (T, b) ∧ ks.length = n + 1 ∧ Err w' sb c ks (tfF zs 0) (pfF zs 0) ∧ Below w.heap.size w w'
theorem put_more {w W : World} {sb : Nat → Addr} {c : Nat} {ks : List (Nat × Addr)} {tf pf : Nat → Int} {T : Nat} {b : Addr} (h : Err w sb c ks tf pf) (hf : ks.length < 1000) (hk : ks.getD 0 k0 = (T, b)) (t p : Int) (hW : Below w.heap.size w W) :
    Calls Tryd.prog 35 #[errV T b, .int .i64 t, .int .i64 p] W fun e w' => ∃ q, e = .returned (errV 51 ⟨q, 0, none⟩) ∧ Err w' sb c ((51, ⟨q, 0, none⟩) :: ks) (consF t tf) (consF p pf) ∧ Below w.heap.size w w' := by
  refine (Put_err T b t p W).mono ?_
  rintro e w' ⟨rfl, rfl⟩
  have h1 := (h.below hW).put hf t p
  rw [hk] at h1
  exact ⟨_, rfl, h1, bnew hW _⟩

set_option maxRecDepth 100000 in
set_option maxHeartbeats 4000000 in
theorem chain1_any {sb : Nat → Addr} (c : Nat) (h1 : 1 ≤ c) (h2 : c ≤ 10) (a : Option Addr) (n cap : Nat) (zs : List (Int × Int)) (w : World) (hE : Ers sb w) (hr : PairRow w a n zs) (hn : n ≤ 20) :
    Calls Tryd.prog 13 #[.int .i64 (c : Int), .slice a n cap] w (ChRet sb c n zs w) := by
  have HN : Hid (Calls Tryd.prog 26 #[.int .i64 (c : Int)] w fun e w' => e = .returned (errV 167 (sb c)) ∧ w = w') := hid ((New_any hE.sents c h1 h2).mono fun e w' h => ⟨h.1, h.2.symm⟩)
  have HO := hid (Err.one hE h1 h2 (tfF zs n) (pfF zs n))
  have HR := hid hr
  clear hE hr
  go_enter Tryd.func13, Tryd.ntmps13
  go_wp2_with (go_at_call 26; (with_reducible refine HN.out.mono ?_); rintro e w' ⟨rfl, rfl⟩)
  go_loopw [5, 6] (fun e i wr => ∃ (j : Nat) (ks : List (Nat × Addr)) (T : Nat) (b : Addr), j ≤ n ∧ i = .int .i64 ((j : Int) - 1) ∧ e = errV T b ∧ ks.getD 0 k0 = (T, b) ∧ ks.length = n - j + 1 ∧ Err wr sb c ks (tfF zs j) (pfF zs j) ∧ Below w.heap.size w wr) (fun _ i _ => (intOf i + 1).toNat)
  case atStart => exact ⟨n, _, _, _, Nat.le_refl _, by go_num, rfl, rfl, by simp, HO.out, bid w⟩
  case round =>
    clear HO HN
    obtain ⟨j, ks, T, b, hj, hi, rfl, hk0, hkl, herr, hb⟩ := hrel
    have HK0 := hid hk0
    have HKL := hid hkl
    have HER := hid herr
    have HB := hid hb
    clear hk0 hkl herr hb
    cases j with
    | zero =>
      obtain rfl := hi
      go_wp2
      go_ret
      exact ⟨T, b, ks, rfl, HK0.out, HKL.out, HER.out, HB.out⟩
    | succ m =>
      have e1 : (((m + 1 : Nat) : Int) - 1) = (m : Int) := by omega
      rw [e1] at hi
      obtain rfl := hi
      obtain ⟨g, off, rfl, hgl, hcell⟩ := HR.out.at (by omega)
      have hml : m < zs.length := by rw [HR.out.cnt]; omega
      have hz0 := hcell m zs[m] (List.getElem?_eq_getElem hml)
      have HZ := hid (show zs.getD m (0, 0) = zs[m] by simp [List.getD, hml])
      have HTF := hid (tf_cons zs m)
      have HPF := hid (pf_cons zs m)
      rw [HZ.out] at HTF HPF
      generalize zs[m] = z at hz0 HTF HPF
      obtain ⟨z1, z2⟩ := z
      dsimp only at hz0 HTF HPF
      have HKB := hid (fun (W : World) (hW : Below wr.heap.size wr W) => (show W.cell? ⟨g, off + m * 2, none⟩ = some (.int .i64 z1) ∧ W.cell? ⟨g, off + m * 2 + 1, none⟩ = some (.int .i64 z2) from ⟨((HB.out.trans (hW.mono HB.out.size)).cell (p := ⟨g, off + m * 2, none⟩) hgl).trans hz0.1, ((HB.out.trans (hW.mono HB.out.size)).cell (p := ⟨g, off + m * 2 + 1, none⟩) hgl).trans hz0.2⟩))
      have HPUT := hid (fun (W : World) (hW : Below wr.heap.size wr W) => put_more (W := W) HER.out (by have := HKL.out; omega) HK0.out z1 z2 hW)
      have i0 : (0 : Int) ≤ (m : Int) := by omega
      have i1 : (m : Int) < ((n : Nat) : Int) := by omega
      obtain ⟨c1, c2⟩ := HKB.out wr (bid wr)
      clear hcell hml HZ HER
      go_upto_region 5 with fail
      go_region_held3 (fun w' => w'.cell? ⟨g, off + m * 2, none⟩ = some (.int .i64 z1) ∧ w'.cell? ⟨g, off + m * 2 + 1, none⟩ = some (.int .i64 z2)) (first | exact HKB.out _ (bid wr) | exact HKB.out _ (bdrew (bid wr)) | exact HKB.out _ HB2.out) ((go_at_call 35; (with_reducible refine (HPUT.out _ (bdrew (bid wr))).mono ?_); rintro e w2 ⟨q, rfl, her2, hb2⟩; have HE2 := hid her2; have HB2 := hid hb2; clear her2 hb2))
      all_goals
        go_wp2
        go_roundw
        case rel =>
          refine ⟨m, (51, ⟨q, 0, none⟩) :: ks, 51, ⟨q, 0, none⟩, by omega, by go_num, rfl, rfl, by have := HKL.out; rw [List.length_cons]; omega, ?_, bthen HB.out HB2.out⟩
          rw [← HTF.out, ← HPF.out]
          exact HE2.out
        case measure => simp [intOf]

end Go.Proofs.YtbobjhadckeieaaDoor
