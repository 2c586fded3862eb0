/-
  Layer 6's own instructions: pick, word, ld, st, up, section, piece.
-/
import Derived.Test.YtblalejegjieaaaGreatDoorKRow
namespace Go.Proofs.YtblalejegjieaaaGreatDoor
open Go.RowKit
set_option linter.unusedVariables false

theorem u64_of_pos {x : Int} (h0 : 0 ≤ x) (h1 : x ≤ 9223372036854775807) : IntKind.u64.wrap x = x := by
  unfold IntKind.wrap
  simp [IntKind.bits, IntKind.signed]
  omega
theorem u64_lo (n : Int) : 0 ≤ IntKind.u64.wrap n := by
  simp only [IntKind.wrap, IntKind.signed, Bool.false_and]
  exact Int.emod_nonneg _ (by decide)
theorem u64_hi (n : Int) : IntKind.u64.wrap n ≤ 18446744073709551615 := by
  unfold IntKind.wrap
  simp [IntKind.bits, IntKind.signed]
  omega
def pickF (x n : Int) : Int := IntKind.u64.wrap x % n
theorem pickF_in {x n : Int} (h : 0 < n) : 0 ≤ pickF x n ∧ pickF x n < n := by
  unfold pickF
  exact ⟨Int.emod_nonneg _ (by omega), Int.emod_lt_of_pos _ h⟩
theorem pickF_pos {x n : Int} (h0 : 0 ≤ x) (h1 : x ≤ 9223372036854775807) : pickF x n = x % n := by unfold pickF; rw [u64_of_pos h0 h1]

set_option maxHeartbeats 1000000 in
theorem pick6_any (x n : Int) (w : World) (h1 : 0 < n) (h2 : n ≤ 1000) :
    Calls Tryz.prog 9 #[.int .i64 x, .int .i64 n] w fun e w' => e = .returned (.int .i64 (pickF x n)) ∧ w = w' := by
  have b0 := u64_lo x
  have b1 := u64_hi x
  have e1 := u64_of_pos (x := n) (by omega) (by omega)
  have b2 : 0 ≤ IntKind.u64.wrap x % n := Int.emod_nonneg _ (by omega)
  have b3 : IntKind.u64.wrap x % n < n := Int.emod_lt_of_pos _ h1
  have HP : Hid (pickF x n = IntKind.u64.wrap x % n) := hid rfl
  have hne : ¬ n = 0 := by omega
  go_enter Tryz.func9, Tryz.ntmps9
  go_wp2
  go_ret
  exact ⟨by rw [HP.out]; rfl, rfl⟩

def wordF (l q : Int) : Int := 3 * l + pickF q 3
set_option maxHeartbeats 1000000 in
theorem word_any (l q : Int) (w : World) (h1 : 0 ≤ l) (h2 : l ≤ 100) :
    Calls Tryz.prog 46 #[.int .i64 l, .int .i64 q] w fun e w' => e = .returned (.int .i64 (wordF l q)) ∧ w = w' := by
  have HP : Hid (wordF l q = 3 * l + pickF q 3) := hid rfl
  have HK := hid (pick6_any q 3)
  have b := pickF_in (x := q) (n := 3) (by decide)
  obtain ⟨b0, b1⟩ := b
  generalize pickF q 3 = z at HP HK b0 b1
  go_enter Tryz.func46, Tryz.ntmps46
  go_wp2_with (go_at_call 9; refine (HK.out _ (by decide) (by decide)).mono ?_; rintro e w' ⟨rfl, rfl⟩)
  go_ret
  exact ⟨by rw [HP.out]; rfl, rfl⟩
theorem wordF_in {l q : Int} (h1 : 0 ≤ l) (h2 : l ≤ 2) : 0 ≤ wordF l q ∧ wordF l q ≤ 8 := by
  have := pickF_in (x := q) (n := 3) (by decide)
  unfold wordF
  omega

@[reducible] def ldI (r d : Int) : Ins := ⟨8, r, 0, 0, d⟩
@[reducible] def stI (r d : Int) : Ins := ⟨9, r, 0, 0, d⟩
@[reducible] def upI (r : Int) : Ins := ⟨2, r, r, 1, 0⟩
@[reducible] def secL (l : Int) (ps : List Ins) : List Ins := ⟨13, l, 0, 0, 0⟩ :: (ps ++ [⟨14, 0, 0, 0, 0⟩])

theorem ld_any (r d : Int) (w : World) : Calls Tryz.prog 48 #[.int .i64 r, .int .i64 d] w fun e w' => e = .returned (.agg #[.int .i64 8, .int .i64 r, .int .i64 0, .int .i64 0, .int .i64 d]) ∧ Below w.heap.size w w' := by
  go_enter Tryz.func48, Tryz.ntmps48
  go_wp2
  exact bodyPost_ret (v := .agg #[.int .i64 8, .int .i64 r, .int .i64 0, .int .i64 0, .int .i64 d]) (by simp [results, Tryz.results48, go_sem]) rfl ⟨rfl, bnew (bid w) _⟩
theorem st_any (r d : Int) (w : World) : Calls Tryz.prog 50 #[.int .i64 r, .int .i64 d] w fun e w' => e = .returned (.agg #[.int .i64 9, .int .i64 r, .int .i64 0, .int .i64 0, .int .i64 d]) ∧ Below w.heap.size w w' := by
  go_enter Tryz.func50, Tryz.ntmps50
  go_wp2
  exact bodyPost_ret (v := .agg #[.int .i64 9, .int .i64 r, .int .i64 0, .int .i64 0, .int .i64 d]) (by simp [results, Tryz.results50, go_sem]) rfl ⟨rfl, bnew (bid w) _⟩
theorem up_any (r : Int) (w : World) : Calls Tryz.prog 49 #[.int .i64 r] w fun e w' => e = .returned (.agg #[.int .i64 2, .int .i64 r, .int .i64 r, .int .i64 1, .int .i64 0]) ∧ Below w.heap.size w w' := by
  go_enter Tryz.func49, Tryz.ntmps49
  go_wp2
  exact bodyPost_ret (v := .agg #[.int .i64 2, .int .i64 r, .int .i64 r, .int .i64 1, .int .i64 0]) (by simp [results, Tryz.results49, go_sem]) rfl ⟨rfl, bnew (bid w) _⟩

/-- A slice of these instructions, made by the call. -/
def InsRet (ps : List Ins) (w : World) (e : Ending) (w' : World) : Prop := ∃ v, e = .returned v ∧ OwnIns w.heap.size v ps w' ∧ Below w.heap.size w w'

theorem own_below {B : Nat} {w W W1 : World} {v : Value} {ps : List Ins} (hb : Below B w W) (ho : OwnIns B v ps W) (hBW : B ≤ W.heap.size) (hw : Wrote (fun b => v.ownBlock = some b) W W1) : Below B w W1 :=
  hb.trans (hw.below hBW fun j hj e => by have := (ho.old e).1; omega)

set_option maxRecDepth 100000 in
set_option maxHeartbeats 4000000 in
theorem section_any (l : Int) (a : Option Addr) (n c : Nat) (ps : List Ins) (w : World) (hr : InsRow w a n ps) (hnc : a = none → c = 0) (hn : n ≤ 900) :
    Calls Tryz.prog 47 #[.int .i64 l, .slice a n c] w (InsRet (secL l ps) w) := by
  obtain ⟨iI, hi, hz0, hz1, hz2⟩ := info_parts infoIns
  have HR := hid (hr.below (bnew (bid w) (.cells #[.int .i64 13, .int .i64 l, .int .i64 0, .int .i64 0, .int .i64 0] 40)))
  have HNC := hid hnc
  have HL : Hid (OwnIns w.heap.size (.slice (some ⟨w.heap.size, 0, none⟩) 1 1) [⟨13, l, 0, 0, 0⟩] (w.alloc (.cells #[.int .i64 13, .int .i64 l, .int .i64 0, .int .i64 0, .int .i64 0] 40))) := hid (OwnIns.lit [⟨13, l, 0, 0, 0⟩] 1 w _ w.heap.size rfl rfl (Nat.le_refl _) (by decide))
  have hcnt := hr.cnt
  clear hr hnc
  have E1 : Hid ([(⟨13, l, 0, 0, 0⟩ : Ins)].length + n ≤ 1000) := hid (by simp; omega)
  have E2 : Hid (([(⟨13, l, 0, 0, 0⟩ : Ins)] ++ ps).length ≤ 1000) := hid (by simp; omega)
  go_enter Tryz.func47, Tryz.ntmps47
  go_upto_region 2 with (at_builtin; go_must (refine wpList_append_insRow rfl (.tmp 8) (.tmp 9) 38 rfl Tryz.underlying38 hi hz0 rfl hz1 hz2 rfl HL.out rfl HR.out HNC.out E1.out (bnew (bid w) _).size ?_; intro v' w' hown' hat' hw'; have HO := hid hown'; have HB := hid (own_below (bnew (bid w) _) HL.out (bnew (bid w) _).size hw'); clear hown' hat' hw'))
  go_wp2_with (at_builtin; go_must (refine wpList_append_ins1 rfl (.tmp 11) (.tmp 13) 38 rfl Tryz.underlying38 hi hz0 rfl hz1 hz2 rfl HO.out ⟨14, 0, 0, 0, 0⟩ _ rfl rfl E2.out HB.out.size ?_; intro v2 w2 hown2 hat2 hw2; have HO2 := hid hown2; have HB2 := hid (own_below HB.out HO.out HB.out.size hw2); clear hown2 hat2 hw2))
  go_ret
  exact ⟨_, rfl, by have h := HO2.out; rw [List.append_assoc] at h; exact h, HB2.out⟩

end Go.Proofs.YtblalejegjieaaaGreatDoor
