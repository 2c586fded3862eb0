/-
  WritesRoom: its walk.
-/
import Derived.Test.YtdkjeggichgimaaWrLast
namespace Go.Proofs.Ytdkjeggichgimaa
open Go.RowKit
attribute [local go_sem] Later.cell Later.frozen

/-- n words at 0, 5, 10, ..: those ahead of i have been written anew. -/
def gV (x : Int) (i j : Nat) : Int := if j < i then wrap64 (x + (j : Int)) else x
def gL (x : Int) (i m : Nat) : List Wd := (List.range m).map fun j : Nat => (5 * (j : Int), gV x i j)
theorem gL_len (x : Int) (i m : Nat) : (gL x i m).length = m := by simp [gL]
theorem gL_succ (x : Int) (i m : Nat) : gL x i (m + 1) = gL x i m ++ [(5 * (m : Int), gV x i m)] := by simp [gL, List.range_succ]
theorem gL_at (x : Int) (i : Nat) {m j : Nat} (h : j < m) : (gL x i m)[j]? = some (5 * (j : Int), gV x i j) := by simp [gL, h]
theorem gL_has (x : Int) (i j : Nat) : ∀ m, hasL (gL x i m) (5 * (j : Int)) = decide (j < m)
  | 0 => by simp [gL, hasL]
  | m + 1 => by
    rw [gL_succ, hasL_snoc, gL_has x i j m, Bool.eq_iff_iff]
    simp
    omega
theorem gL_take (x : Int) (i : Nat) {j m : Nat} (h : j ≤ m) : (gL x i m).take j = gL x i j := by
  unfold gL
  rw [← List.map_take, List.take_range, Nat.min_eq_left h]
theorem gL_val (x : Int) (i : Nat) {m j : Nat} (h : j < m) : valL (gL x i m) (5 * (j : Int)) = gV x i j :=
  valL_at _ j _ _ (gL_at x i h) rfl (by rw [gL_take x i (by omega), gL_has, decide_eq_false (by omega)])
theorem gL_upd (x : Int) {m i : Nat} (h : i < m) : updL (gL x i m) (5 * (i : Int)) (wrap64 (x + (i : Int))) = gL x (i + 1) m := by
  rw [updL_at _ i _ _ _ (gL_at x i h) rfl (by rw [gL_take x i (by omega), gL_has, decide_eq_false (by omega)])]
  refine List.ext_getElem? fun j => ?_
  by_cases hj : j < m
  · rw [gL_at x (i + 1) hj]
    by_cases e : i = j
    · subst e
      rw [List.getElem?_set_self (by rw [gL_len]; exact h)]
      unfold gV
      rw [if_pos (Nat.lt_succ_self i)]
    · rw [List.getElem?_set_ne e, gL_at x i hj]
      unfold gV
      by_cases e2 : j < i
      · rw [if_pos e2, if_pos (show j < i + 1 by omega)]
      · rw [if_neg e2, if_neg (show ¬ j < i + 1 by omega)]
  · rw [List.getElem?_eq_none (by rw [List.length_set, gL_len]; omega), List.getElem?_eq_none (by rw [gL_len]; omega)]
theorem gL_putB (x : Int) (n i : Nat) : wputB n (gL x 0 (min i n)) (5 * (i : Int)) = decide (i < n) := by
  have h : hasL (gL x 0 (min i n)) (5 * (i : Int)) = false := by rw [gL_has, decide_eq_false (by omega)]
  rw [wputB_new (by omega) h, gL_len, Bool.eq_iff_iff]
  simp
  omega
theorem gL_putL (x : Int) (n i : Nat) : wputL n (gL x 0 (min i n)) (5 * (i : Int)) x = gL x 0 (min (i + 1) n) := by
  have h : hasL (gL x 0 (min i n)) (5 * (i : Int)) = false := by rw [gL_has, decide_eq_false (by omega)]
  by_cases hi : i < n
  · rw [wputL_new x (by omega) h (by rw [gL_len]; omega), show min i n = i by omega, show min (i + 1) n = i + 1 by omega, gL_succ]
    rfl
  · rw [wputL_full x (by omega) h (by rw [gL_len]; omega), show min i n = n by omega, show min (i + 1) n = n by omega]

set_option maxRecDepth 100000 in
set_option maxHeartbeats 4000000 in
theorem wroom_any (y x : Int) (w : World) :
    Calls Try.prog 6 #[.int .i64 y, .int .i64 x] w fun e w' => e = .returned (.bool true) ∧ Below w.heap.size w w' := by
  obtain ⟨n0, hn0, e0⟩ := rs_pick y 41 (by decide) (by decide)
  have e0' : wrap64 ((IntKind.u64.wrap y).tmod 41) = (n0 : Int) := e0
  clear e0
  go_enter Try.func6, Try.ntmps6
  go_upto_region 2 with fail
  rw [e0']
  clear e0'
  have HNW := hid (wNew_any (n0 : Int) w)
  obtain ⟨n, hn⟩ : ∃ n, n = capF (n0 : Int) := ⟨_, rfl⟩
  rw [← hn] at HNW
  have hn2 : n = min n0 32 := by rw [hn]; unfold capF; omega
  clear hn
  go_upto_region 3 with (go_at_call 8; go_must ((with_reducible refine HNW.out.mono ?_); rintro e w1 ⟨b, rfl, hwb, hs, hb⟩; have HK := hid (WmAt.mk hs hwb hb); clear hs hb hwb HNW))
  go_upto_region 5 with fail
  go_cut [5] (fun v W => v = .int .i64 n ∧ W = w1)
  case first =>
    clear HK
    by_cases h32 : (32 : Int) < (n0 : Int)
    · obtain rfl : n = 32 := by omega
      go_wp2_with fail
      go_meet
      case rel => exact ⟨rfl, rfl⟩
    · obtain rfl : n = n0 := by omega
      clear hn2
      go_wp2_with fail
      go_meet
      case rel => exact ⟨rfl, rfl⟩
  case rest =>
  obtain ⟨rfl, hwc⟩ := hcut
  have hwc := hwc.symm
  subst hwc
  clear hn2 hn0 n0
  have hn32 : n ≤ 32 := HK.out.set.room
  have HPT := hid (fun (W : World) (i : Nat) (h : WSet W b n (gL x 0 (min i n)) 0) => (show Calls Try.prog 13 #[.pointer (some ⟨b, 0, none⟩), .int .i64 (5 * (i : Int)), .int .i64 x] W fun e w' => e = .returned (.bool (decide (i < n))) ∧ WSet w' b n (gL x 0 (min (i + 1) n)) 0 ∧ Wrote (fun j => j = b) W w' from by have := wPut_any (5 * (i : Int)) x b n _ 0 W h; unfold WPutRet at this; rwa [gL_putB, gL_putL] at this))
  have HK0 := hid (show WmAt w b n (gL x 0 (min 0 n)) 0 w1 from by rw [Nat.zero_min]; exact HK.out)
  clear HK
  go_wp2_with fail
  go_loopw [7] (fun i W => ∃ j : Nat, j ≤ n + 2 ∧ i = .int .i64 j ∧ WmAt w b n (gL x 0 (min j n)) 0 W) (fun i _ => n + 2 - (intOf i).toNat)
  case atStart => exact ⟨0, by omega, rfl, HK0.out⟩
  case round =>
    clear HK0
    obtain ⟨j, hj, rfl, hR⟩ := hrel
    have HK := hid hR
    clear hR
    have r0 : wrap64 ((n : Int) + 2) = (n : Int) + 2 := wrap_in (by omega) (by omega)
    by_cases hlt : j < n + 2
    · have l1 : (j : Int) < (n : Int) + 2 := by omega
      have r1 : wrap64 (5 * (j : Int)) = 5 * (j : Int) := wrap_in (by omega) (by omega)
      have HP := hid (fun W h => HPT.out W j h)
      clear HPT
      by_cases hjn : j < n
      · simp only [decide_eq_true hjn] at HP
        have r2 : (j : Int) < (n : Int) := by omega
        clear hjn
        go_wp2_with (go_at_call 13; go_must ((with_reducible refine (HP.out _ HK.out.set).mono ?_); rintro e w3 ⟨rfl, hs, hw⟩; have HK := hid (HK.out.put hs hw); clear hs hw))
        go_roundw
        case rel => exact ⟨j + 1, by omega, by go_num, HK.out⟩
        case measure => simp [intOf]; omega
      · simp only [decide_eq_false hjn] at HP
        have r2 : ¬ (j : Int) < (n : Int) := by omega
        clear hjn
        go_wp2_with (go_at_call 13; go_must ((with_reducible refine (HP.out _ HK.out.set).mono ?_); rintro e w3 ⟨rfl, hs, hw⟩; have HK := hid (HK.out.put hs hw); clear hs hw))
        go_roundw
        case rel => exact ⟨j + 1, by omega, by go_num, HK.out⟩
        case measure => simp [intOf]; omega
    · obtain rfl : j = n + 2 := by omega
      have HK0 := hid (show WmAt w b n (gL x 0 n) 0 wr from by have h := HK.out; rwa [show min (n + 2) n = n by omega] at h)
      clear HPT HK hlt
      have HGT := hid (fun (W : World) (i : Nat) (hi : i < n) (h : WSet W b n (gL x i n) i) => (show Calls Try.prog 11 #[.pointer (some ⟨b, 0, none⟩), .int .i64 (5 * (i : Int))] W fun e w' => e = .returned (.tuple #[.int .i64 x, .bool true]) ∧ WSet w' b n (gL x i n) (i + 1) ∧ Wrote (fun j => j = b) W w' from by
        have := wGet_any (5 * (i : Int)) b n _ i W h (by omega)
        unfold WGetRet at this
        have hh : hasL (gL x i n) (5 * (i : Int)) = true := by rw [gL_has, decide_eq_true hi]
        rwa [gL_val x i hi, hh, show gV x i i = x from if_neg (by omega), show askF (gL x i n) (5 * (i : Int)) i = i + 1 from by unfold askF; rw [mayL_has (by omega) hh]; rfl] at this))
      have HPT := hid (fun (W : World) (i : Nat) (hi : i < n) (h : WSet W b n (gL x i n) (i + 1)) => (show Calls Try.prog 13 #[.pointer (some ⟨b, 0, none⟩), .int .i64 (5 * (i : Int)), .int .i64 (wrap64 (x + (i : Int)))] W fun e w' => e = .returned (.bool true) ∧ WSet w' b n (gL x (i + 1) n) (i + 1) ∧ Wrote (fun j => j = b) W w' from by
        have hh : hasL (gL x i n) (5 * (i : Int)) = true := by rw [gL_has, decide_eq_true hi]
        have := wPut_any (5 * (i : Int)) (wrap64 (x + (i : Int))) b n _ (i + 1) W h
        unfold WPutRet at this
        rwa [wputB_there (by omega) hh, wputL_there _ (by omega) hh, gL_upd x hi] at this))
      go_wp2_with fail
      go_loopw [8] (fun i W => ∃ j : Nat, j ≤ n ∧ i = .int .i64 j ∧ WmAt w b n (gL x j n) j W) (fun i _ => n - (intOf i).toNat)
      case atStart => exact ⟨0, by omega, rfl, HK0.out⟩
      case round =>
        clear HK0
        obtain ⟨j, hj, rfl, hR⟩ := hrel
        have HK := hid hR
        clear hR
        by_cases hlt : j < n
        · have l1 : (j : Int) < (n : Int) := by omega
          have r1 : wrap64 (5 * (j : Int)) = 5 * (j : Int) := wrap_in (by omega) (by omega)
          have HG := hid (fun W h => HGT.out W j hlt h)
          have HP := hid (fun W h => HPT.out W j hlt h)
          clear HGT HPT
          go_wp2_with (first | (go_at_call 11; go_must ((with_reducible refine (HG.out _ HK.out.set).mono ?_); rintro e w2 ⟨rfl, hs, hw⟩; have HK2 := hid (HK.out.put hs hw); clear hs hw)) | (go_at_call 13; go_must ((with_reducible refine (HP.out _ HK2.out.set).mono ?_); rintro e w3 ⟨rfl, hs, hw⟩; have HK3 := hid (HK2.out.put hs hw); clear hs hw)))
          go_roundw
          case rel =>
            repeat apply Exists.intro
            refine ⟨⟨j + 1, by omega, by go_num, HK3.out⟩, ?_⟩
            rfl
          case measure => simp [intOf]; omega
        · obtain rfl : j = n := by omega
          have HL := hid (List_any b j (gL x j j) j wr HK.out.set)
          clear HGT HPT
          go_upto_region 18 with (go_at_call 19; go_must ((with_reducible refine HL.out.mono ?_); rintro e w2 ⟨lv, rfl, hwl, hb⟩; obtain ⟨la, lc, rfl, hrow⟩ := hwl.form; have HROW := hid hrow; have HK2 := hid (HK.out.later hb); clear hb hrow hwl))
          rw [gL_len]
          have hrow := HROW.out
          rw [gL_len] at hrow
          have HR := hid hrow
          have HPN := hid (fun (W : World) (h : WSet W b j (gL x j j) j) => (show Calls Try.prog 13 #[.pointer (some ⟨b, 0, none⟩), .int .i64 (-1), .int .i64 x] W fun e w' => e = .returned (.bool false) ∧ WSet w' b j (gL x j j) j ∧ Wrote (fun j => j = b) W w' from by
            have := wPut_any (-1) x b j _ j W h
            unfold WPutRet at this
            rwa [wputB_neg (by decide), wputL_neg _ (by decide)] at this))
          clear HL HK hlt hrow HROW
          go_wp2_with fail
          go_loopw [12] (fun i W => ∃ k : Nat, k ≤ j ∧ i = .int .i64 k ∧ W = w2) (fun i _ => j - (intOf i).toNat)
          case atStart => exact ⟨0, by omega, rfl, rfl⟩
          case round =>
            obtain ⟨k, hk, rfl, rfl⟩ := hrel
            by_cases hkl : k < j
            · have l1 : (k : Int) < (j : Int) := by omega
              have l0 : (0 : Int) ≤ (k : Int) := by omega
              have r1 : wrap64 (5 * (k : Int)) = 5 * (k : Int) := wrap_in (by omega) (by omega)
              obtain ⟨g, off, rfl, hg, hcs⟩ := HR.out.at (by omega)
              obtain ⟨y0, y1⟩ := hcs k _ (gL_at x j hkl)
              rw [show gV x j k = wrap64 (x + (k : Int)) from if_pos hkl] at y1
              clear hcs
              go_wp2_with fail
              go_roundw
              case rel => exact ⟨k + 1, by omega, by go_num, by trivial⟩
              case measure => simp [intOf]; omega
            · obtain rfl : k = j := by omega
              go_wp2_with (first
                | (go_at_call 7; go_must ((with_reducible refine (told14_any _).mono ?_); rintro e w3 ⟨rfl, hb⟩; have HK2 := hid (HK2.out.later hb); clear hb))
                | (go_at_call 15; go_must ((with_reducible refine (wLen_nil _).mono ?_); rintro e w3 ⟨rfl, rfl⟩))
                | (go_at_call 16; go_must ((with_reducible refine (Filter_nil _).mono ?_); rintro e w3 ⟨rfl, rfl⟩))
                | (go_at_call 19; go_must ((with_reducible refine (List_nil _).mono ?_); rintro e w3 ⟨rfl, rfl⟩))
                | (go_at_call 11; go_must ((with_reducible refine (wGet_nil _ _).mono ?_); rintro e w3 ⟨rfl, rfl⟩))
                | (go_at_call 13; (first | ((with_reducible refine (wPut_nil _ _ _).mono ?_); rintro e w3 ⟨rfl, rfl⟩) | ((with_reducible refine (HPN.out _ HK2.out.set).mono ?_); rintro e w4 ⟨rfl, hs, hw⟩; have HK2 := hid (HK2.out.put hs hw); clear hs hw))))
              go_ret
              exact ⟨rfl, HK2.out.below⟩

end Go.Proofs.Ytdkjeggichgimaa
