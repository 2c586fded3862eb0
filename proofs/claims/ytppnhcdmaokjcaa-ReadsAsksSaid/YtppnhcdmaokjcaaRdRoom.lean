/-
  ReadsRoom: its walk.
-/
import Derived.Test.YtppnhcdmaokjcaaRdT
namespace Go.Proofs.Ytppnhcdmaokjcaa
open Go.RowKit
attribute [local go_sem] Later.cell Later.frozen

/-- m words from k on, each with its number. -/
def rsL (k : Int) (m : Nat) : List Wd := (List.range m).map fun j : Nat => (k + (j : Int), (j : Int))
theorem rsL_len (k : Int) (m : Nat) : (rsL k m).length = m := by simp [rsL]
theorem rsL_succ (k : Int) (m : Nat) : rsL k (m + 1) = rsL k m ++ [(k + (m : Int), (m : Int))] := by simp [rsL, List.range_succ]
theorem rsL_at (k : Int) {m i : Nat} (h : i < m) : (rsL k m)[i]? = some (k + (i : Int), (i : Int)) := by simp [rsL, h]
theorem rsL_has (k : Int) (i : Nat) : ∀ m, hasL (rsL k m) (k + (i : Int)) = decide (i < m)
  | 0 => by simp [rsL, hasL]
  | m + 1 => by
    rw [rsL_succ, hasL_snoc, rsL_has k i m, Bool.eq_iff_iff]
    simp
    omega
theorem rs_room (k : Int) (n i : Nat) : roomL n (rsL k (min i n)) (k + (i : Int)) = decide (i < n) := by
  unfold roomL
  rw [rsL_has, rsL_len, Bool.eq_iff_iff]
  simp
  omega
theorem rs_put (k : Int) (n i : Nat) : putL n (rsL k (min i n)) (k + (i : Int)) (i : Int) = rsL k (min (i + 1) n) := by
  by_cases h : i < n
  · rw [putL_new _ (by rw [rsL_has]; simp; omega) (by rw [rsL_len]; omega), show min i n = i by omega, show min (i + 1) n = i + 1 by omega, rsL_succ]
  · rw [putL_full _ (by rw [rsL_len]; omega), show min i n = n by omega, show min (i + 1) n = n by omega]
theorem rs_pick (x : Int) (m : Nat) (h0 : 0 < m) (hm : m ≤ 1073741824) : ∃ k : Nat, k < m ∧ wrap64 ((IntKind.u64.wrap x).tmod (m : Int)) = (k : Int) := by
  have h : 0 ≤ IntKind.u64.wrap x := by
    simp only [IntKind.wrap, IntKind.signed, Bool.false_and]
    exact Int.emod_nonneg _ (by decide)
  generalize IntKind.u64.wrap x = u at *
  have e : u.tmod (m : Int) = u % (m : Int) := Int.tmod_eq_emod_of_nonneg h
  have l1 : 0 ≤ u % (m : Int) := Int.emod_nonneg _ (by omega)
  have l2 : u % (m : Int) < (m : Int) := Int.emod_lt_of_pos _ (by omega)
  rw [e, wrap_in (by omega) (by omega)]
  exact ⟨(u % (m : Int)).toNat, by omega, by omega⟩

theorem field_val (k v : Int) (W : World) : (Instr.field 32 (.agg #[.int .i64 k, .int .i64 v]) 1).run Try.prog W = .ok (.int .i64 v) W := by kernel_rfl
/-- Where ReadsRoom stands. -/
structure RmAt (w : World) (b n : Nat) (ws : List Wd) (W : World) : Prop where
  set : SetAt W b n ws
  young : w.heap.size ≤ b
  below : Below w.heap.size w W
theorem RmAt.later {w W W' : World} {b n : Nat} {ws : List Wd} (h : RmAt w b n ws W) (hb : Below W.heap.size W W') : RmAt w b n ws W' := ⟨h.set.below hb, h.young, bthen h.below hb⟩
theorem RmAt.put {w W W' : World} {b n : Nat} {ws ws' : List Wd} (h : RmAt w b n ws W) (hs : SetAt W' b n ws') (hw : Wrote (fun j => j = b) W W') : RmAt w b n ws' W' :=
  ⟨hs, h.young, h.below.trans (hw.below h.below.size (fun k hk e => by have := h.young; omega))⟩

set_option maxRecDepth 100000 in
set_option maxHeartbeats 4000000 in
theorem rroom_any (x y : Int) (w : World) :
    Calls Try.prog 5 #[.int .i64 x, .int .i64 y] w fun e w' => e = .returned (.bool true) ∧ Below w.heap.size w w' := by
  obtain ⟨n0, hn0, e0⟩ := rs_pick x 41 (by decide) (by decide)
  obtain ⟨k, hk, e1⟩ := rs_pick y 1073741824 (by decide) (by decide)
  have e0' : wrap64 ((IntKind.u64.wrap x).tmod 41) = (n0 : Int) := e0
  have e1' : wrap64 ((IntKind.u64.wrap y).tmod 1073741824) = (k : Int) := e1
  clear e0 e1
  go_enter Try.func5, Try.ntmps5
  go_upto_region 2 with fail
  rw [e0', e1']
  clear e0' e1'
  have HNW := hid (New_any (n0 : Int) w)
  obtain ⟨n, hn⟩ : ∃ n, n = capF (n0 : Int) := ⟨_, rfl⟩
  rw [← hn] at HNW
  have hn2 : n = min n0 32 := by rw [hn]; unfold capF; omega
  clear hn
  have hk2 : (k : Int) ≤ 1073741824 := by omega
  go_upto_region 3 with (go_at_call 7; go_must ((with_reducible refine HNW.out.mono ?_); rintro e w1 ⟨b, rfl, hwb, hs, hb⟩; have HK := hid (RmAt.mk hs hwb hb); clear hs hb hwb HNW))
  go_upto_region 5 with fail
  go_cut [5] (fun v W => v = .int .i64 n ∧ W = w1)
  case first =>
    clear HK
    by_cases h32 : (32 : Int) < (n0 : Int)
    · obtain rfl : n = 32 := by omega
      go_wp2_with fail
      go_meet
      case rel => exact ⟨rfl, rfl⟩
    · obtain rfl : n = n0 := by omega
      clear hn2
      go_wp2_with fail
      go_meet
      case rel => exact ⟨rfl, rfl⟩
  case rest =>
  obtain ⟨rfl, rfl⟩ := hcut
  clear hn2 hn0 n0
  have hn32 : n ≤ 32 := HK.out.set.room
  have HRM := hid (fun (W : World) (i : Nat) (h : SetAt W b n (rsL k (min i n))) => (show Calls Try.prog 9 #[.pointer (some ⟨b, 0, none⟩), .int .i64 ((k : Int) + (i : Int))] W fun e w' => e = .returned (.bool (decide (i < n))) ∧ Below W.heap.size W w' from by have := Room_any (k + (i : Int)) b n _ W h; rwa [rs_room] at this))
  have HPT := hid (fun (W : World) (i : Nat) (h : SetAt W b n (rsL k (min i n))) => (show Calls Try.prog 11 #[.pointer (some ⟨b, 0, none⟩), .int .i64 ((k : Int) + (i : Int)), .int .i64 (i : Int)] W fun e w' => e = .returned (.bool (decide (i < n))) ∧ SetAt w' b n (rsL k (min (i + 1) n)) ∧ Wrote (fun j => j = b) W w' from by have := Put_any (k + (i : Int)) i b n _ W h; unfold PutRet at this; rwa [rs_room, rs_put] at this))
  have HK0 := hid (show RmAt w b n (rsL k (min 0 n)) wc from by rw [Nat.zero_min]; exact HK.out)
  clear HK
  go_wp2_with fail
  go_loopw [8] (fun i W => ∃ j : Nat, j ≤ n + 3 ∧ i = .int .i64 j ∧ RmAt w b n (rsL k (min j n)) W) (fun i _ => n + 3 - (intOf i).toNat)
  case atStart => exact ⟨0, by omega, rfl, HK0.out⟩
  case round =>
    clear HK0
    obtain ⟨j, hj, rfl, hR⟩ := hrel
    have HK := hid hR
    clear hR
    have r0 : wrap64 ((n : Int) + 3) = (n : Int) + 3 := wrap_in (by omega) (by omega)
    by_cases hlt : j < n + 3
    · have l1 : (j : Int) < (n : Int) + 3 := by omega
      have r1 : wrap64 ((k : Int) + (j : Int)) = (k : Int) + (j : Int) := wrap_in (by omega) (by omega)
      have HR := hid (fun W h => HRM.out W j h)
      have HP := hid (fun W h => HPT.out W j h)
      clear HRM HPT
      by_cases hjn : j < n
      · simp only [decide_eq_true hjn] at HR HP
        have r2 : (j : Int) < (n : Int) := by omega
        clear hjn
        go_upto_region 8 with (first | (go_at_call 9; go_must ((with_reducible refine (HR.out _ HK.out.set).mono ?_); rintro e w2 ⟨rfl, hb⟩; have HK := hid (HK.out.later hb); clear hb)) | (go_at_call 11; go_must ((with_reducible refine (HP.out _ HK.out.set).mono ?_); rintro e w3 ⟨rfl, hs, hw⟩; have HK := hid (HK.out.put hs hw); clear hs hw)))
        go_wp2_with fail
        go_roundw
        case rel => exact ⟨j + 1, by omega, by go_num, HK.out⟩
        case measure => simp [intOf]; omega
      · simp only [decide_eq_false hjn] at HR HP
        have r2 : ¬ (j : Int) < (n : Int) := by omega
        clear hjn
        go_upto_region 8 with (first | (go_at_call 9; go_must ((with_reducible refine (HR.out _ HK.out.set).mono ?_); rintro e w2 ⟨rfl, hb⟩; have HK := hid (HK.out.later hb); clear hb)) | (go_at_call 11; go_must ((with_reducible refine (HP.out _ HK.out.set).mono ?_); rintro e w3 ⟨rfl, hs, hw⟩; have HK := hid (HK.out.put hs hw); clear hs hw)))
        go_wp2_with fail
        go_roundw
        case rel => exact ⟨j + 1, by omega, by go_num, HK.out⟩
        case measure => simp [intOf]; omega
    · obtain rfl : j = n + 3 := by omega
      have HK0 := hid (show RmAt w b n (rsL k n) wr from by have h := HK.out; rwa [show min (n + 3) n = n by omega] at h)
      have HRM := hid (fun (W : World) (i : Nat) (hi : i < n) (h : SetAt W b n (rsL k n)) => (show Calls Try.prog 9 #[.pointer (some ⟨b, 0, none⟩), .int .i64 ((k : Int) + (i : Int))] W fun e w' => e = .returned (.bool true) ∧ Below W.heap.size W w' from by have := Room_any (k + (i : Int)) b n _ W h; rwa [show roomL n (rsL k n) (k + (i : Int)) = true from by unfold roomL; rw [rsL_has, decide_eq_true hi]; rfl] at this))
      have HHS := hid (fun (W : World) (i : Nat) (h : SetAt W b n (rsL k n)) => (show Calls Try.prog 17 #[.pointer (some ⟨b, 0, none⟩), .int .i64 ((k : Int) + (i : Int))] W fun e w' => e = .returned (.bool (decide (i < n))) ∧ Below W.heap.size W w' from by have := Has_any (k + (i : Int)) b n _ W h; rwa [rsL_has] at this))
      have HAT := hid (fun (W : World) (i : Nat) (hi : i < n) (h : SetAt W b n (rsL k n)) => (show Calls Try.prog 16 #[.pointer (some ⟨b, 0, none⟩), .int .i64 i] W fun e w' => e = .returned (.agg #[.int .i64 ((k : Int) + (i : Int)), .int .i64 (i : Int)]) ∧ Below W.heap.size W w' from At_any i _ b n _ W h (rsL_at k hi)))
      have HLN := hid (fun (W : World) (h : SetAt W b n (rsL k n)) => (show Calls Try.prog 13 #[.pointer (some ⟨b, 0, none⟩)] W fun e w' => e = .returned (.int .i64 n) ∧ Below W.heap.size W w' from by have := Len_any b n _ W h; rwa [rsL_len] at this))
      clear HPT HK hlt
      go_wp2_with fail
      go_loopw [9] (fun i W => ∃ j : Nat, j ≤ n ∧ i = .int .i64 j ∧ RmAt w b n (rsL k n) W) (fun i _ => n - (intOf i).toNat)
      case atStart => exact ⟨0, by omega, rfl, HK0.out⟩
      case round =>
        clear HK0
        obtain ⟨j, hj, rfl, hR⟩ := hrel
        have HK := hid hR
        clear hR
        by_cases hlt : j < n
        · have l1 : (j : Int) < (n : Int) := by omega
          have r1 : wrap64 ((k : Int) + (j : Int)) = (k : Int) + (j : Int) := wrap_in (by omega) (by omega)
          have HR := hid (fun W h => HRM.out W j hlt h)
          have HS := hid (fun W h => HHS.out W j h)
          have HA := hid (fun W h => HAT.out W j hlt h)
          simp only [decide_eq_true hlt] at HS
          clear HRM HHS HAT
          have hfv := field_val
          go_wp2_with (first | (go_at_call 9; go_must ((with_reducible refine (HR.out _ HK.out.set).mono ?_); rintro e w2 ⟨rfl, hb⟩; have HK := hid (HK.out.later hb); clear hb)) | (go_at_call 17; go_must ((with_reducible refine (HS.out _ HK.out.set).mono ?_); rintro e w3 ⟨rfl, hb⟩; have HK := hid (HK.out.later hb); clear hb)) | (go_at_call 16; go_must ((with_reducible refine (HA.out _ HK.out.set).mono ?_); rintro e w4 ⟨rfl, hb⟩; have HK := hid (HK.out.later hb); clear hb)))
          go_roundw
          case rel =>
            repeat apply Exists.intro
            refine ⟨⟨j + 1, by omega, by go_num, HK.out⟩, ?_⟩
            rfl
          case measure => simp [intOf]; omega
        · obtain rfl : j = n := by omega
          have HS := hid (fun W h => HHS.out W j h)
          simp only [decide_eq_false hlt] at HS
          have r1 : wrap64 ((k : Int) + (j : Int)) = (k : Int) + (j : Int) := wrap_in (by omega) (by omega)
          clear HRM HHS HAT
          go_wp2_with (first
            | (go_at_call 6; go_must ((with_reducible refine (told13_any _).mono ?_); rintro e w2 ⟨rfl, hb⟩; have HK := hid (HK.out.later hb); clear hb))
            | (go_at_call 13; (first | ((with_reducible refine (HLN.out _ HK.out.set).mono ?_); rintro e w3 ⟨rfl, hb⟩; have HK := hid (HK.out.later hb); clear hb) | ((with_reducible refine (Len_nil _).mono ?_); rintro e w3 ⟨rfl, rfl⟩)))
            | (go_at_call 17; (first | ((with_reducible refine (HS.out _ HK.out.set).mono ?_); rintro e w3 ⟨rfl, hb⟩; have HK := hid (HK.out.later hb); clear hb) | ((with_reducible refine (Has_nil _ _).mono ?_); rintro e w3 ⟨rfl, rfl⟩)))
            | (go_at_call 11; go_must ((with_reducible refine (Put_nil _ _ _).mono ?_); rintro e w3 ⟨rfl, hb⟩; have HK := hid (HK.out.later hb); clear hb))
            | (go_at_call 9; go_must ((with_reducible refine (Room_nil _ _).mono ?_); rintro e w3 ⟨rfl, hb⟩; have HK := hid (HK.out.later hb); clear hb))
            | (go_at_call 15; go_must ((with_reducible refine (Keys_nil _).mono ?_); rintro e w3 ⟨rfl, rfl⟩)))
          go_ret
          exact ⟨rfl, HK.out.below⟩

end Go.Proofs.Ytppnhcdmaokjcaa
