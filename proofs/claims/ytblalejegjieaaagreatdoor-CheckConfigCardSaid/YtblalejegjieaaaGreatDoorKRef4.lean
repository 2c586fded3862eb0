/-
  The document's own answer for what a run begins with, walked.
-/
import Derived.Test.YtblalejegjieaaaGreatDoorKRef1
namespace Go.Proofs.YtblalejegjieaaaGreatDoor
open Go.RowKit
set_option linter.unusedVariables false

/-- What the document's own answer tells of a program. -/
def ProgAns (f : Flt) (t : Int) (code at_ : Int) : Prop := (f = none ∧ code = 0) ∨ ∃ (x : Nat) (p : Int), f = some (x, some (t, p)) ∧ code = (x : Int) ∧ at_ = p ∧ x ≠ 0
def ProgRet (f : Flt) (t : Int) (w : World) (e : Ending) (w' : World) : Prop := ∃ code at_, e = .returned (.tuple #[.int .i64 code, .int .i64 at_]) ∧ ProgAns f t code at_ ∧ Below w.heap.size w w'

theorem amountsB_iff {c : Cfg} {s : CV} : amountsB c s = true ↔ (1 ≤ c.eng ∧ c.eng ≤ 2) ∧ (1 ≤ c.clk ∧ c.clk ≤ 2) ∧ (1 ≤ c.str ∧ c.str ≤ 16) ∧ (1 ≤ c.rds ∧ c.rds ≤ 32) ∧ (1 ≤ c.wrs ∧ c.wrs ≤ 32) ∧ (0 ≤ c.rty ∧ c.rty ≤ 8) ∧ (0 ≤ c.fuel ∧ c.fuel ≤ 400) ∧ (0 ≤ c.most ∧ c.most ≤ 1099511627776) ∧ ((s.ni : Int) ≤ 32 ∧ (s.nl : Int) ≤ 4 ∧ (s.nc : Int) ≤ 4 ∧ 1 ≤ (s.np : Int) ∧ (s.np : Int) ≤ 4) := by
  have hp : pmayB (c.pm s) = true ↔ ((1 ≤ c.str ∧ c.str ≤ 16) ∧ (s.ni : Int) ≤ 32 ∧ (s.nl : Int) ≤ 4 ∧ (s.nc : Int) ≤ 4 ∧ 1 ≤ (s.np : Int) ∧ (s.np : Int) ≤ 4) := by
    unfold pmayB
    rw [decide_eq_true_iff]
    constructor
    · rintro ⟨s1, s2, l1, l2, t1, t2, c1, c2, d1, d2⟩
      dsimp only [Cfg.pm] at s1 s2 l1 l2 t1 t2 c1 c2 d1 d2
      omega
    · rintro h
      constructor <;> dsimp only [Cfg.pm] <;> omega
  unfold amountsB
  simp only [Bool.and_eq_true, Bool.or_eq_true, beq_iff_eq, decide_eq_true_eq, inB]
  rw [hp]
  omega

theorem trip_prog {c : Cfg} {s : CV} {t x : Nat} {p : Int} (h0 : configF c s = placeF (firstF s.np 0 (-1) (progF c s)) (-1) (-1)) (ht : t < s.np) (hn : ∀ j, j < t → progF c s j = none) (h : progF c s t = some (x, some ((t : Int), p))) : tripF (configF c s) = ((x : Int), (t : Int), p) := by
  rw [h0, firstF_at s.np 0 (-1) (progF c s) t _ (fun j _ hj => hn j hj) (Nat.zero_le _) (by omega) h]
  rfl
theorem trip_none {c : Cfg} {s : CV} (h0 : configF c s = placeF (firstF s.np 0 (-1) (progF c s)) (-1) (-1)) (hn : ∀ j, j < s.np → progF c s j = none) : tripF (configF c s) = (0, 0, 0) := by
  rw [h0, firstF_none s.np 0 (-1) (progF c s) fun j _ hj => hn j (by omega)]
  rfl

set_option maxRecDepth 100000 in
set_option maxHeartbeats 8000000 in
theorem refConfig_any (c : Cfg) (s : CV) (w : World) (hc : CfgIn w c s) (hP : ∀ t : Nat, t < s.np → ∀ W, Below w.heap.size w W → Calls Tryz.prog 32 #[c.v s, .int .i64 (t : Int)] W (ProgRet (progF c s t) (t : Int) W)) :
    Calls Tryz.prog 14 #[c.v s] w (TripRet (tripF (configF c s)) w) := by
  have hni := hc.fi
  have hnl := hc.fl
  have hnc := hc.fc
  have hnp := hc.fp
  have HC := hid hc
  have HPR := hid hP
  have HBAD := hid (fun h => trip_amounts (c := c) (s := s) h)
  have HLK := hid (fun h hl => trip_locks (c := c) (s := s) h hl)
  have HPG := hid (fun h hl => trip_progs (c := c) (s := s) h hl lock_pos cond_pos)
  have HTP := hid (fun (t x : Nat) (p : Int) h0 ht hn h => trip_prog (c := c) (s := s) (t := t) (x := x) (p := p) h0 ht hn h)
  have HTN := hid (fun h0 hn => trip_none (c := c) (s := s) h0 hn)
  generalize tripF (configF c s) = R at HBAD HLK HTP HTN
  have HLC := hid (fun (W : World) (hW : Below w.heap.size w W) => refLocks_any c s W (hc.below hW))
  generalize ansF (locksAns c s) = la at HLK HPG HLC
  obtain ⟨la1, la2⟩ := la
  have hno : ¬ ((1 ≤ c.eng ∧ c.eng ≤ 2) ∧ (1 ≤ c.clk ∧ c.clk ≤ 2) ∧ (1 ≤ c.str ∧ c.str ≤ 16) ∧ (1 ≤ c.rds ∧ c.rds ≤ 32) ∧ (1 ≤ c.wrs ∧ c.wrs ≤ 32) ∧ (0 ≤ c.rty ∧ c.rty ≤ 8) ∧ (0 ≤ c.fuel ∧ c.fuel ≤ 400) ∧ (0 ≤ c.most ∧ c.most ≤ 1099511627776) ∧ ((s.ni : Int) ≤ 32 ∧ (s.nl : Int) ≤ 4 ∧ (s.nc : Int) ≤ 4 ∧ 1 ≤ (s.np : Int) ∧ (s.np : Int) ≤ 4)) → R = (1, -1, -1) := fun h => HBAD.out (Bool.eq_false_iff.2 fun hf => h (amountsB_iff.1 hf))
  clear hc hP HBAD
  go_enter Tryz.func14, Tryz.ntmps14
  have hq := cfg_facts (CfgBox.new w c s)
  have HX := hid (CfgBox.new w c s)
  obtain ⟨k0, k1, k2, k3, k4, k5, k6, k7, k8, k9, k10, k11⟩ := hq
  by_cases g0 : c.eng < 1
  · have HA := hid (hno (by omega))
    clear hno
    go_wp2
    exact bodyPost_ret (v := .tuple #[.int .i64 1, .int .i64 (-1), .int .i64 (-1)]) (by simp [results, Tryz.results14, go_sem]) rfl (trip_ret HA.out (bnew (bid w) _))
  by_cases g1 : 2 < c.eng
  · have HA := hid (hno (by omega))
    clear hno
    go_wp2
    exact bodyPost_ret (v := .tuple #[.int .i64 1, .int .i64 (-1), .int .i64 (-1)]) (by simp [results, Tryz.results14, go_sem]) rfl (trip_ret HA.out (bnew (bid w) _))
  by_cases g2 : c.clk < 1
  · have HA := hid (hno (by omega))
    clear hno
    go_wp2
    exact bodyPost_ret (v := .tuple #[.int .i64 1, .int .i64 (-1), .int .i64 (-1)]) (by simp [results, Tryz.results14, go_sem]) rfl (trip_ret HA.out (bnew (bid w) _))
  by_cases g3 : 2 < c.clk
  · have HA := hid (hno (by omega))
    clear hno
    go_wp2
    exact bodyPost_ret (v := .tuple #[.int .i64 1, .int .i64 (-1), .int .i64 (-1)]) (by simp [results, Tryz.results14, go_sem]) rfl (trip_ret HA.out (bnew (bid w) _))
  by_cases g4 : c.str < 1
  · have HA := hid (hno (by omega))
    clear hno
    go_wp2
    exact bodyPost_ret (v := .tuple #[.int .i64 1, .int .i64 (-1), .int .i64 (-1)]) (by simp [results, Tryz.results14, go_sem]) rfl (trip_ret HA.out (bnew (bid w) _))
  by_cases g5 : 16 < c.str
  · have HA := hid (hno (by omega))
    clear hno
    go_wp2
    exact bodyPost_ret (v := .tuple #[.int .i64 1, .int .i64 (-1), .int .i64 (-1)]) (by simp [results, Tryz.results14, go_sem]) rfl (trip_ret HA.out (bnew (bid w) _))
  by_cases g6 : c.rds < 1
  · have HA := hid (hno (by omega))
    clear hno
    go_wp2
    exact bodyPost_ret (v := .tuple #[.int .i64 1, .int .i64 (-1), .int .i64 (-1)]) (by simp [results, Tryz.results14, go_sem]) rfl (trip_ret HA.out (bnew (bid w) _))
  by_cases g7 : 32 < c.rds
  · have HA := hid (hno (by omega))
    clear hno
    go_wp2
    exact bodyPost_ret (v := .tuple #[.int .i64 1, .int .i64 (-1), .int .i64 (-1)]) (by simp [results, Tryz.results14, go_sem]) rfl (trip_ret HA.out (bnew (bid w) _))
  by_cases g8 : c.wrs < 1
  · have HA := hid (hno (by omega))
    clear hno
    go_wp2
    exact bodyPost_ret (v := .tuple #[.int .i64 1, .int .i64 (-1), .int .i64 (-1)]) (by simp [results, Tryz.results14, go_sem]) rfl (trip_ret HA.out (bnew (bid w) _))
  by_cases g9 : 32 < c.wrs
  · have HA := hid (hno (by omega))
    clear hno
    go_wp2
    exact bodyPost_ret (v := .tuple #[.int .i64 1, .int .i64 (-1), .int .i64 (-1)]) (by simp [results, Tryz.results14, go_sem]) rfl (trip_ret HA.out (bnew (bid w) _))
  by_cases g10 : c.rty < 0
  · have HA := hid (hno (by omega))
    clear hno
    go_wp2
    exact bodyPost_ret (v := .tuple #[.int .i64 1, .int .i64 (-1), .int .i64 (-1)]) (by simp [results, Tryz.results14, go_sem]) rfl (trip_ret HA.out (bnew (bid w) _))
  by_cases g11 : 8 < c.rty
  · have HA := hid (hno (by omega))
    clear hno
    go_wp2
    exact bodyPost_ret (v := .tuple #[.int .i64 1, .int .i64 (-1), .int .i64 (-1)]) (by simp [results, Tryz.results14, go_sem]) rfl (trip_ret HA.out (bnew (bid w) _))
  by_cases g12 : c.fuel < 0
  · have HA := hid (hno (by omega))
    clear hno
    go_wp2
    exact bodyPost_ret (v := .tuple #[.int .i64 1, .int .i64 (-1), .int .i64 (-1)]) (by simp [results, Tryz.results14, go_sem]) rfl (trip_ret HA.out (bnew (bid w) _))
  by_cases g13 : 400 < c.fuel
  · have HA := hid (hno (by omega))
    clear hno
    go_wp2
    exact bodyPost_ret (v := .tuple #[.int .i64 1, .int .i64 (-1), .int .i64 (-1)]) (by simp [results, Tryz.results14, go_sem]) rfl (trip_ret HA.out (bnew (bid w) _))
  by_cases g14 : c.most < 0
  · have HA := hid (hno (by omega))
    clear hno
    go_wp2
    exact bodyPost_ret (v := .tuple #[.int .i64 1, .int .i64 (-1), .int .i64 (-1)]) (by simp [results, Tryz.results14, go_sem]) rfl (trip_ret HA.out (bnew (bid w) _))
  by_cases g15 : 1099511627776 < c.most
  · have HA := hid (hno (by omega))
    clear hno
    go_wp2
    exact bodyPost_ret (v := .tuple #[.int .i64 1, .int .i64 (-1), .int .i64 (-1)]) (by simp [results, Tryz.results14, go_sem]) rfl (trip_ret HA.out (bnew (bid w) _))
  by_cases g16 : 32 < (s.ni : Int)
  · have HA := hid (hno (by omega))
    clear hno
    go_wp2
    exact bodyPost_ret (v := .tuple #[.int .i64 1, .int .i64 (-1), .int .i64 (-1)]) (by simp [results, Tryz.results14, go_sem]) rfl (trip_ret HA.out (bnew (bid w) _))
  by_cases g17 : 4 < (s.nl : Int)
  · have HA := hid (hno (by omega))
    clear hno
    go_wp2
    exact bodyPost_ret (v := .tuple #[.int .i64 1, .int .i64 (-1), .int .i64 (-1)]) (by simp [results, Tryz.results14, go_sem]) rfl (trip_ret HA.out (bnew (bid w) _))
  by_cases g18 : 4 < (s.nc : Int)
  · have HA := hid (hno (by omega))
    clear hno
    go_wp2
    exact bodyPost_ret (v := .tuple #[.int .i64 1, .int .i64 (-1), .int .i64 (-1)]) (by simp [results, Tryz.results14, go_sem]) rfl (trip_ret HA.out (bnew (bid w) _))
  by_cases g19 : (s.np : Int) < 1
  · have HA := hid (hno (by omega))
    clear hno
    go_wp2
    exact bodyPost_ret (v := .tuple #[.int .i64 1, .int .i64 (-1), .int .i64 (-1)]) (by simp [results, Tryz.results14, go_sem]) rfl (trip_ret HA.out (bnew (bid w) _))
  by_cases g20 : 4 < (s.np : Int)
  · have HA := hid (hno (by omega))
    clear hno
    go_wp2
    exact bodyPost_ret (v := .tuple #[.int .i64 1, .int .i64 (-1), .int .i64 (-1)]) (by simp [results, Tryz.results14, go_sem]) rfl (trip_ret HA.out (bnew (bid w) _))
  have HAM := hid (show amountsB c s = true from amountsB_iff.2 (by omega))
  clear hno
  have hl1 := HLC.out _ (bnew (bid w) (.cells (c.cs s) 34))
  have HL1 := hid hl1
  clear hl1 HLC
  go_upto_region 6 with (go_at_call 31; (with_reducible refine HL1.out.mono ?_); rintro e w2 ⟨rfl, hb2⟩; have HB2 := hid (bthen (bnew (bid w) (.cells (c.cs s) 34)) hb2); have HX2 := hid (HX.out.below hb2); clear hb2)
  clear k0 k1 k2 k3 k4 k5 k6 k7 k8 k9 k10 k11 HX HL1
  by_cases hz : la1 = 0
  · subst hz
    have HCF := hid (HPG.out HAM.out rfl)
    have HTQ := hid (fun (t x : Nat) (p : Int) ht hn h => HTP.out t x p HCF.out ht hn h)
    have HTM := hid (fun hn => HTN.out HCF.out hn)
    clear HPG HLK HTP HTN HCF
    go_wp2_with fail
    go_loopw [7] (fun t7 wr => ∃ t : Nat, t ≤ s.np ∧ t7 = .int .i64 t ∧ (∀ j, j < t → progF c s j = none) ∧ Below w2.heap.size w2 wr) (fun t7 _ => s.np - (intOf t7).toNat)
    case atStart => exact ⟨0, Nat.zero_le _, rfl, fun j h => by omega, bid w2⟩
    case round =>
      obtain ⟨t, ht, rfl, h0, hb⟩ := hrel
      have H0 := hid h0
      have HB3 := hid (bthen HB2.out hb)
      obtain ⟨k0, k1, k2, k3, k4, k5, k6, k7, k8, k9, k10, k11⟩ := cfg_facts (HX2.out.below hb)
      have HBR := hid hb
      clear h0 hb
      by_cases hlt : t < s.np
      · have i1 : (t : Int) < ((s.np : Nat) : Int) := by omega
        have HPT := hid (HPR.out t hlt wr HB3.out)
        go_upto_region 12 with (go_at_call 32; (with_reducible refine HPT.out.mono ?_); rintro e w4 ⟨code, at_, rfl, hpa, hb4⟩; have HPA := hid hpa; have HB4 := hid hb4; clear hpa hb4)
        rcases HPA.out with ⟨hn, rfl⟩ | ⟨x, p, hs, rfl, rfl, hx⟩
        · have HN := hid hn
          clear hn HPA
          go_wp2
          go_roundw
          case rel =>
            refine ⟨t + 1, by omega, by go_num, fun j hj => ?_, bthen HBR.out HB4.out⟩
            rcases Nat.lt_or_ge j t with h | h
            · exact H0.out j h
            · obtain rfl : j = t := by omega
              exact HN.out
          case measure => simp [intOf]; omega
        · have HA := hid (HTQ.out _ _ _ hlt H0.out hs)
          have hx1 : ¬ (x : Int) = 0 := by omega
          clear hs HPA
          go_wp2
          exact bodyPost_ret (v := .tuple #[.int .i64 (x : Int), .int .i64 (t : Int), .int .i64 at_]) (by simp [results, Tryz.results14, go_sem]) rfl (trip_ret HA.out (bthen HB3.out HB4.out))
      · obtain rfl : t = s.np := by omega
        have HA := hid (HTM.out H0.out)
        go_wp2
        exact bodyPost_ret (v := .tuple #[.int .i64 0, .int .i64 0, .int .i64 0]) (by simp [results, Tryz.results14, go_sem]) rfl (trip_ret HA.out HB3.out)
  · have HA := hid (HLK.out HAM.out hz)
    clear HPG HLK HTP HTN
    go_wp2
    exact bodyPost_ret (v := .tuple #[.int .i64 la1, .int .i64 (-1), .int .i64 la2]) (by simp [results, Tryz.results14, go_sem]) rfl (trip_ret HA.out HB2.out)

end Go.Proofs.YtblalejegjieaaaGreatDoor
