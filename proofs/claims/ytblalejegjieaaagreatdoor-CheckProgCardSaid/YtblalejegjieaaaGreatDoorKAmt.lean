/-
  Package check: how many of each; which amounts may be.
-/
import Derived.Test.YtblalejegjieaaaGreatDoorKFault
import Derived.Test.YtblalejegjieaaaGreatDoorKRegion
import Derived.Test.YtblalejegjieaaaGreatDoorPlc
namespace Go.Proofs.YtblalejegjieaaaGreatDoor
open Go.RowKit
set_option linter.unusedVariables false

theorem kwithin_any (n a b : Int) (w : World) :
    Calls Tryz.prog 36 #[.int .i64 n, .int .i64 a, .int .i64 b] w fun e w' => e = .returned (.bool (inB n a b)) ∧ w = w' := by
  by_cases h1 : a ≤ n
  · by_cases h2 : n ≤ b
    · have H := hid (inB_yes h1 h2)
      go_enter Tryz.func36, Tryz.ntmps36
      go_wp2
      go_ret
      exact ⟨by rw [H.out]; rfl, rfl⟩
    · have H := hid (inB_no (n := n) (a := a) (b := b) (by omega))
      go_enter Tryz.func36, Tryz.ntmps36
      go_wp2
      go_ret
      exact ⟨by rw [H.out]; rfl, rfl⟩
  · have H := hid (inB_no (n := n) (a := a) (b := b) (by omega))
    go_enter Tryz.func36, Tryz.ntmps36
    go_wp2
    go_ret
    exact ⟨by rw [H.out]; rfl, rfl⟩

def Cfg.pm (c : Cfg) (s : CV) : PM := ⟨c.str, (s.nl : Int), (s.np : Int), (s.nc : Int), (s.ni : Int)⟩

set_option maxRecDepth 100000 in
set_option maxHeartbeats 2000000 in
theorem Map_any (c : Cfg) (s : CV) (w : World) :
    Calls Tryz.prog 35 #[c.v s] w fun e w' => e = .returned (c.pm s).v ∧ Below w.heap.size w w' := by
  obtain ⟨eng, clk, str, rds, wrs, rty, fuel, most, ls, cs, ps⟩ := c
  obtain ⟨ai, ni, ki, al, nl, kl, ac, nc, kc, ap, np, kp⟩ := s
  show Calls _ _ #[.agg #[.int .i64 eng, .int .i64 clk, .int .i64 str, .int .i64 rds, .int .i64 wrs, .int .i64 rty, .int .i64 fuel, .int .i64 most, .slice ai ni ki, .slice al nl kl, .slice ac nc kc, .slice ap np kp]] _ _
  go_enter Tryz.func35, Tryz.ntmps35
  go_wp2
  exact bodyPost_ret (v := .agg #[.int .i64 str, .int .i64 (nl : Int), .int .i64 (np : Int), .int .i64 (nc : Int), .int .i64 (ni : Int)]) (by simp [results, Tryz.results35, go_sem]) rfl ⟨rfl, by first | exact bnew (bnew (bid w) _) _ | exact (bnew (bnew (bid w) _) _).setCell (by simp) _⟩

def amountsB (c : Cfg) (s : CV) : Bool := pmayB (c.pm s) && (c.eng == 1 || c.eng == 2) && (c.clk == 1 || c.clk == 2) && inB c.rds 1 32 && inB c.wrs 1 32 && inB c.rty 0 8 && inB c.fuel 0 400 && decide (0 ≤ c.most) && decide (c.most ≤ 1099511627776)
def amountsF (c : Cfg) (s : CV) : Flt := if amountsB c s = true then none else some (1, none)
theorem amounts_yes {c : Cfg} {s : CV} (h : amountsB c s = true) : amountsF c s = none := if_pos h
theorem amounts_no {c : Cfg} {s : CV} (h : amountsB c s = false) : amountsF c s = some (1, none) := if_neg (by simp [h])

set_option maxRecDepth 100000 in
set_option maxHeartbeats 8000000 in
theorem amounts_any {sb : Nat → Addr} (c : Cfg) (s : CV) (w : World) (hE : Errs sb w) :
    Calls Tryz.prog 18 #[c.v s] w (ToldRet sb (amountsF c s) w) := by
  obtain ⟨eng, clk, str, rds, wrs, rty, fuel, most, ls, cs, ps⟩ := c
  obtain ⟨ai, ni, ki, al, nl, kl, ac, nc, kc, ap, np, kp⟩ := s
  have HE := hid hE
  have HM := hid (Map_any ⟨eng, clk, str, rds, wrs, rty, fuel, most, ls, cs, ps⟩ ⟨ai, ni, ki, al, nl, kl, ac, nc, kc, ap, np, kp⟩)
  have HA : Hid (amountsB ⟨eng, clk, str, rds, wrs, rty, fuel, most, ls, cs, ps⟩ ⟨ai, ni, ki, al, nl, kl, ac, nc, kc, ap, np, kp⟩ = (pmayB ⟨str, (nl : Int), (np : Int), (nc : Int), (ni : Int)⟩ && (eng == 1 || eng == 2) && (clk == 1 || clk == 2) && inB rds 1 32 && inB wrs 1 32 && inB rty 0 8 && inB fuel 0 400 && decide (0 ≤ most) && decide (most ≤ 1099511627776))) := hid rfl
  have HP := hid (fun W => may_any ⟨str, (nl : Int), (np : Int), (nc : Int), (ni : Int)⟩ W)
  clear hE
  show Calls _ _ #[.agg #[.int .i64 eng, .int .i64 clk, .int .i64 str, .int .i64 rds, .int .i64 wrs, .int .i64 rty, .int .i64 fuel, .int .i64 most, .slice ai ni ki, .slice al nl kl, .slice ac nc kc, .slice ap np kp]] _ _
  cases hpm : pmayB ⟨str, (nl : Int), (np : Int), (nc : Int), (ni : Int)⟩
  case true =>
    cases he1 : (eng == 1)
    case true =>
      cases hk1 : (clk == 1)
      case true =>
        cases hr : inB rds 1 32
        case true =>
          cases hw : inB wrs 1 32
          case true =>
            cases ht : inB rty 0 8
            case true =>
              cases hf : inB fuel 0 400
              case true =>
                cases hm : decide (0 ≤ most)
                case true =>
                  cases hn : decide (most ≤ 1099511627776)
                  case true =>
                    have HV := hid (show amountsB ⟨eng, clk, str, rds, wrs, rty, fuel, most, ls, cs, ps⟩ ⟨ai, ni, ki, al, nl, kl, ac, nc, kc, ap, np, kp⟩ = true by rw [HA.out]; simp [hpm, he1, hk1, hr, hw, ht, hf, hm, hn])
                    rw [hpm] at HP
                    clear hpm HA
                    go_enter Tryz.func18, Tryz.ntmps18
                    go_wp2_with (first | (go_at_call 35; refine (HM.out _).mono ?_; rintro e w1 ⟨rfl, hb1⟩; have HB1 := hid hb1; obtain ⟨hc1, hf1, hz1⟩ := bcell hb1 (size_alloc1 _ _); clear hb1 hf1 hz1; dsimp only [Cfg.pm]) | (go_at_call 34; refine (HP.out _).mono ?_; rintro e w2 ⟨rfl, hb2⟩; have HB2 := hid hb2; have hc2 : ∀ o, w2.cell? ⟨w.heap.size, o, none⟩ = w1.cell? ⟨w.heap.size, o, none⟩ := (fun o => hb2.cell (p := ⟨w.heap.size, o, none⟩) (Nat.lt_of_lt_of_le (by rw [size_alloc1]; exact Nat.lt_succ_self _) HB1.out.size)); clear hb2) | (go_at_call 36; refine (kwithin_any _ _ _ _).mono ?_; rintro e w' ⟨rfl, rfl⟩) | (go_at_call 29; refine (New_any ((HE.out.below (bthen (bthen (bnew (bid w) _) HB1.out) HB2.out)).sents) 1 (by decide) (by decide)).mono ?_; rintro e w9 ⟨rfl, rfl⟩))
                    go_ret
                    exact ⟨_, rfl, (by rw [amounts_yes HV.out]; rfl), bthen (bthen (bnew (bid w) _) HB1.out) HB2.out⟩
                  case false =>
                    have HV := hid (show amountsB ⟨eng, clk, str, rds, wrs, rty, fuel, most, ls, cs, ps⟩ ⟨ai, ni, ki, al, nl, kl, ac, nc, kc, ap, np, kp⟩ = false by rw [HA.out]; simp [hpm, he1, hk1, hr, hw, ht, hf, hm, hn])
                    rw [hpm] at HP
                    clear hpm HA
                    go_enter Tryz.func18, Tryz.ntmps18
                    go_wp2_with (first | (go_at_call 35; refine (HM.out _).mono ?_; rintro e w1 ⟨rfl, hb1⟩; have HB1 := hid hb1; obtain ⟨hc1, hf1, hz1⟩ := bcell hb1 (size_alloc1 _ _); clear hb1 hf1 hz1; dsimp only [Cfg.pm]) | (go_at_call 34; refine (HP.out _).mono ?_; rintro e w2 ⟨rfl, hb2⟩; have HB2 := hid hb2; have hc2 : ∀ o, w2.cell? ⟨w.heap.size, o, none⟩ = w1.cell? ⟨w.heap.size, o, none⟩ := (fun o => hb2.cell (p := ⟨w.heap.size, o, none⟩) (Nat.lt_of_lt_of_le (by rw [size_alloc1]; exact Nat.lt_succ_self _) HB1.out.size)); clear hb2) | (go_at_call 36; refine (kwithin_any _ _ _ _).mono ?_; rintro e w' ⟨rfl, rfl⟩) | (go_at_call 29; refine (New_any ((HE.out.below (bthen (bthen (bnew (bid w) _) HB1.out) HB2.out)).sents) 1 (by decide) (by decide)).mono ?_; rintro e w9 ⟨rfl, rfl⟩))
                    go_ret
                    exact ⟨_, rfl, (by rw [amounts_no HV.out]; exact ⟨by decide, by decide, rfl⟩), bthen (bthen (bnew (bid w) _) HB1.out) HB2.out⟩
                case false =>
                  have HV := hid (show amountsB ⟨eng, clk, str, rds, wrs, rty, fuel, most, ls, cs, ps⟩ ⟨ai, ni, ki, al, nl, kl, ac, nc, kc, ap, np, kp⟩ = false by rw [HA.out]; simp [hpm, he1, hk1, hr, hw, ht, hf, hm])
                  rw [hpm] at HP
                  clear hpm HA
                  go_enter Tryz.func18, Tryz.ntmps18
                  go_wp2_with (first | (go_at_call 35; refine (HM.out _).mono ?_; rintro e w1 ⟨rfl, hb1⟩; have HB1 := hid hb1; obtain ⟨hc1, hf1, hz1⟩ := bcell hb1 (size_alloc1 _ _); clear hb1 hf1 hz1; dsimp only [Cfg.pm]) | (go_at_call 34; refine (HP.out _).mono ?_; rintro e w2 ⟨rfl, hb2⟩; have HB2 := hid hb2; have hc2 : ∀ o, w2.cell? ⟨w.heap.size, o, none⟩ = w1.cell? ⟨w.heap.size, o, none⟩ := (fun o => hb2.cell (p := ⟨w.heap.size, o, none⟩) (Nat.lt_of_lt_of_le (by rw [size_alloc1]; exact Nat.lt_succ_self _) HB1.out.size)); clear hb2) | (go_at_call 36; refine (kwithin_any _ _ _ _).mono ?_; rintro e w' ⟨rfl, rfl⟩) | (go_at_call 29; refine (New_any ((HE.out.below (bthen (bthen (bnew (bid w) _) HB1.out) HB2.out)).sents) 1 (by decide) (by decide)).mono ?_; rintro e w9 ⟨rfl, rfl⟩))
                  go_ret
                  exact ⟨_, rfl, (by rw [amounts_no HV.out]; exact ⟨by decide, by decide, rfl⟩), bthen (bthen (bnew (bid w) _) HB1.out) HB2.out⟩
              case false =>
                have HV := hid (show amountsB ⟨eng, clk, str, rds, wrs, rty, fuel, most, ls, cs, ps⟩ ⟨ai, ni, ki, al, nl, kl, ac, nc, kc, ap, np, kp⟩ = false by rw [HA.out]; simp [hpm, he1, hk1, hr, hw, ht, hf])
                rw [hpm] at HP
                clear hpm HA
                go_enter Tryz.func18, Tryz.ntmps18
                go_wp2_with (first | (go_at_call 35; refine (HM.out _).mono ?_; rintro e w1 ⟨rfl, hb1⟩; have HB1 := hid hb1; obtain ⟨hc1, hf1, hz1⟩ := bcell hb1 (size_alloc1 _ _); clear hb1 hf1 hz1; dsimp only [Cfg.pm]) | (go_at_call 34; refine (HP.out _).mono ?_; rintro e w2 ⟨rfl, hb2⟩; have HB2 := hid hb2; have hc2 : ∀ o, w2.cell? ⟨w.heap.size, o, none⟩ = w1.cell? ⟨w.heap.size, o, none⟩ := (fun o => hb2.cell (p := ⟨w.heap.size, o, none⟩) (Nat.lt_of_lt_of_le (by rw [size_alloc1]; exact Nat.lt_succ_self _) HB1.out.size)); clear hb2) | (go_at_call 36; refine (kwithin_any _ _ _ _).mono ?_; rintro e w' ⟨rfl, rfl⟩) | (go_at_call 29; refine (New_any ((HE.out.below (bthen (bthen (bnew (bid w) _) HB1.out) HB2.out)).sents) 1 (by decide) (by decide)).mono ?_; rintro e w9 ⟨rfl, rfl⟩))
                go_ret
                exact ⟨_, rfl, (by rw [amounts_no HV.out]; exact ⟨by decide, by decide, rfl⟩), bthen (bthen (bnew (bid w) _) HB1.out) HB2.out⟩
            case false =>
              have HV := hid (show amountsB ⟨eng, clk, str, rds, wrs, rty, fuel, most, ls, cs, ps⟩ ⟨ai, ni, ki, al, nl, kl, ac, nc, kc, ap, np, kp⟩ = false by rw [HA.out]; simp [hpm, he1, hk1, hr, hw, ht])
              rw [hpm] at HP
              clear hpm HA
              go_enter Tryz.func18, Tryz.ntmps18
              go_wp2_with (first | (go_at_call 35; refine (HM.out _).mono ?_; rintro e w1 ⟨rfl, hb1⟩; have HB1 := hid hb1; obtain ⟨hc1, hf1, hz1⟩ := bcell hb1 (size_alloc1 _ _); clear hb1 hf1 hz1; dsimp only [Cfg.pm]) | (go_at_call 34; refine (HP.out _).mono ?_; rintro e w2 ⟨rfl, hb2⟩; have HB2 := hid hb2; have hc2 : ∀ o, w2.cell? ⟨w.heap.size, o, none⟩ = w1.cell? ⟨w.heap.size, o, none⟩ := (fun o => hb2.cell (p := ⟨w.heap.size, o, none⟩) (Nat.lt_of_lt_of_le (by rw [size_alloc1]; exact Nat.lt_succ_self _) HB1.out.size)); clear hb2) | (go_at_call 36; refine (kwithin_any _ _ _ _).mono ?_; rintro e w' ⟨rfl, rfl⟩) | (go_at_call 29; refine (New_any ((HE.out.below (bthen (bthen (bnew (bid w) _) HB1.out) HB2.out)).sents) 1 (by decide) (by decide)).mono ?_; rintro e w9 ⟨rfl, rfl⟩))
              go_ret
              exact ⟨_, rfl, (by rw [amounts_no HV.out]; exact ⟨by decide, by decide, rfl⟩), bthen (bthen (bnew (bid w) _) HB1.out) HB2.out⟩
          case false =>
            have HV := hid (show amountsB ⟨eng, clk, str, rds, wrs, rty, fuel, most, ls, cs, ps⟩ ⟨ai, ni, ki, al, nl, kl, ac, nc, kc, ap, np, kp⟩ = false by rw [HA.out]; simp [hpm, he1, hk1, hr, hw])
            rw [hpm] at HP
            clear hpm HA
            go_enter Tryz.func18, Tryz.ntmps18
            go_wp2_with (first | (go_at_call 35; refine (HM.out _).mono ?_; rintro e w1 ⟨rfl, hb1⟩; have HB1 := hid hb1; obtain ⟨hc1, hf1, hz1⟩ := bcell hb1 (size_alloc1 _ _); clear hb1 hf1 hz1; dsimp only [Cfg.pm]) | (go_at_call 34; refine (HP.out _).mono ?_; rintro e w2 ⟨rfl, hb2⟩; have HB2 := hid hb2; have hc2 : ∀ o, w2.cell? ⟨w.heap.size, o, none⟩ = w1.cell? ⟨w.heap.size, o, none⟩ := (fun o => hb2.cell (p := ⟨w.heap.size, o, none⟩) (Nat.lt_of_lt_of_le (by rw [size_alloc1]; exact Nat.lt_succ_self _) HB1.out.size)); clear hb2) | (go_at_call 36; refine (kwithin_any _ _ _ _).mono ?_; rintro e w' ⟨rfl, rfl⟩) | (go_at_call 29; refine (New_any ((HE.out.below (bthen (bthen (bnew (bid w) _) HB1.out) HB2.out)).sents) 1 (by decide) (by decide)).mono ?_; rintro e w9 ⟨rfl, rfl⟩))
            go_ret
            exact ⟨_, rfl, (by rw [amounts_no HV.out]; exact ⟨by decide, by decide, rfl⟩), bthen (bthen (bnew (bid w) _) HB1.out) HB2.out⟩
        case false =>
          have HV := hid (show amountsB ⟨eng, clk, str, rds, wrs, rty, fuel, most, ls, cs, ps⟩ ⟨ai, ni, ki, al, nl, kl, ac, nc, kc, ap, np, kp⟩ = false by rw [HA.out]; simp [hpm, he1, hk1, hr])
          rw [hpm] at HP
          clear hpm HA
          go_enter Tryz.func18, Tryz.ntmps18
          go_wp2_with (first | (go_at_call 35; refine (HM.out _).mono ?_; rintro e w1 ⟨rfl, hb1⟩; have HB1 := hid hb1; obtain ⟨hc1, hf1, hz1⟩ := bcell hb1 (size_alloc1 _ _); clear hb1 hf1 hz1; dsimp only [Cfg.pm]) | (go_at_call 34; refine (HP.out _).mono ?_; rintro e w2 ⟨rfl, hb2⟩; have HB2 := hid hb2; have hc2 : ∀ o, w2.cell? ⟨w.heap.size, o, none⟩ = w1.cell? ⟨w.heap.size, o, none⟩ := (fun o => hb2.cell (p := ⟨w.heap.size, o, none⟩) (Nat.lt_of_lt_of_le (by rw [size_alloc1]; exact Nat.lt_succ_self _) HB1.out.size)); clear hb2) | (go_at_call 36; refine (kwithin_any _ _ _ _).mono ?_; rintro e w' ⟨rfl, rfl⟩) | (go_at_call 29; refine (New_any ((HE.out.below (bthen (bthen (bnew (bid w) _) HB1.out) HB2.out)).sents) 1 (by decide) (by decide)).mono ?_; rintro e w9 ⟨rfl, rfl⟩))
          go_ret
          exact ⟨_, rfl, (by rw [amounts_no HV.out]; exact ⟨by decide, by decide, rfl⟩), bthen (bthen (bnew (bid w) _) HB1.out) HB2.out⟩
      case false =>
        cases hk12 : (clk == 2)
        case true =>
          cases hr : inB rds 1 32
          case true =>
            cases hw : inB wrs 1 32
            case true =>
              cases ht : inB rty 0 8
              case true =>
                cases hf : inB fuel 0 400
                case true =>
                  cases hm : decide (0 ≤ most)
                  case true =>
                    cases hn : decide (most ≤ 1099511627776)
                    case true =>
                      have HV := hid (show amountsB ⟨eng, clk, str, rds, wrs, rty, fuel, most, ls, cs, ps⟩ ⟨ai, ni, ki, al, nl, kl, ac, nc, kc, ap, np, kp⟩ = true by rw [HA.out]; simp [hpm, he1, hk1, hk12, hr, hw, ht, hf, hm, hn])
                      rw [hpm] at HP
                      clear hpm HA
                      go_enter Tryz.func18, Tryz.ntmps18
                      go_wp2_with (first | (go_at_call 35; refine (HM.out _).mono ?_; rintro e w1 ⟨rfl, hb1⟩; have HB1 := hid hb1; obtain ⟨hc1, hf1, hz1⟩ := bcell hb1 (size_alloc1 _ _); clear hb1 hf1 hz1; dsimp only [Cfg.pm]) | (go_at_call 34; refine (HP.out _).mono ?_; rintro e w2 ⟨rfl, hb2⟩; have HB2 := hid hb2; have hc2 : ∀ o, w2.cell? ⟨w.heap.size, o, none⟩ = w1.cell? ⟨w.heap.size, o, none⟩ := (fun o => hb2.cell (p := ⟨w.heap.size, o, none⟩) (Nat.lt_of_lt_of_le (by rw [size_alloc1]; exact Nat.lt_succ_self _) HB1.out.size)); clear hb2) | (go_at_call 36; refine (kwithin_any _ _ _ _).mono ?_; rintro e w' ⟨rfl, rfl⟩) | (go_at_call 29; refine (New_any ((HE.out.below (bthen (bthen (bnew (bid w) _) HB1.out) HB2.out)).sents) 1 (by decide) (by decide)).mono ?_; rintro e w9 ⟨rfl, rfl⟩))
                      go_ret
                      exact ⟨_, rfl, (by rw [amounts_yes HV.out]; rfl), bthen (bthen (bnew (bid w) _) HB1.out) HB2.out⟩
                    case false =>
                      have HV := hid (show amountsB ⟨eng, clk, str, rds, wrs, rty, fuel, most, ls, cs, ps⟩ ⟨ai, ni, ki, al, nl, kl, ac, nc, kc, ap, np, kp⟩ = false by rw [HA.out]; simp [hpm, he1, hk1, hk12, hr, hw, ht, hf, hm, hn])
                      rw [hpm] at HP
                      clear hpm HA
                      go_enter Tryz.func18, Tryz.ntmps18
                      go_wp2_with (first | (go_at_call 35; refine (HM.out _).mono ?_; rintro e w1 ⟨rfl, hb1⟩; have HB1 := hid hb1; obtain ⟨hc1, hf1, hz1⟩ := bcell hb1 (size_alloc1 _ _); clear hb1 hf1 hz1; dsimp only [Cfg.pm]) | (go_at_call 34; refine (HP.out _).mono ?_; rintro e w2 ⟨rfl, hb2⟩; have HB2 := hid hb2; have hc2 : ∀ o, w2.cell? ⟨w.heap.size, o, none⟩ = w1.cell? ⟨w.heap.size, o, none⟩ := (fun o => hb2.cell (p := ⟨w.heap.size, o, none⟩) (Nat.lt_of_lt_of_le (by rw [size_alloc1]; exact Nat.lt_succ_self _) HB1.out.size)); clear hb2) | (go_at_call 36; refine (kwithin_any _ _ _ _).mono ?_; rintro e w' ⟨rfl, rfl⟩) | (go_at_call 29; refine (New_any ((HE.out.below (bthen (bthen (bnew (bid w) _) HB1.out) HB2.out)).sents) 1 (by decide) (by decide)).mono ?_; rintro e w9 ⟨rfl, rfl⟩))
                      go_ret
                      exact ⟨_, rfl, (by rw [amounts_no HV.out]; exact ⟨by decide, by decide, rfl⟩), bthen (bthen (bnew (bid w) _) HB1.out) HB2.out⟩
                  case false =>
                    have HV := hid (show amountsB ⟨eng, clk, str, rds, wrs, rty, fuel, most, ls, cs, ps⟩ ⟨ai, ni, ki, al, nl, kl, ac, nc, kc, ap, np, kp⟩ = false by rw [HA.out]; simp [hpm, he1, hk1, hk12, hr, hw, ht, hf, hm])
                    rw [hpm] at HP
                    clear hpm HA
                    go_enter Tryz.func18, Tryz.ntmps18
                    go_wp2_with (first | (go_at_call 35; refine (HM.out _).mono ?_; rintro e w1 ⟨rfl, hb1⟩; have HB1 := hid hb1; obtain ⟨hc1, hf1, hz1⟩ := bcell hb1 (size_alloc1 _ _); clear hb1 hf1 hz1; dsimp only [Cfg.pm]) | (go_at_call 34; refine (HP.out _).mono ?_; rintro e w2 ⟨rfl, hb2⟩; have HB2 := hid hb2; have hc2 : ∀ o, w2.cell? ⟨w.heap.size, o, none⟩ = w1.cell? ⟨w.heap.size, o, none⟩ := (fun o => hb2.cell (p := ⟨w.heap.size, o, none⟩) (Nat.lt_of_lt_of_le (by rw [size_alloc1]; exact Nat.lt_succ_self _) HB1.out.size)); clear hb2) | (go_at_call 36; refine (kwithin_any _ _ _ _).mono ?_; rintro e w' ⟨rfl, rfl⟩) | (go_at_call 29; refine (New_any ((HE.out.below (bthen (bthen (bnew (bid w) _) HB1.out) HB2.out)).sents) 1 (by decide) (by decide)).mono ?_; rintro e w9 ⟨rfl, rfl⟩))
                    go_ret
                    exact ⟨_, rfl, (by rw [amounts_no HV.out]; exact ⟨by decide, by decide, rfl⟩), bthen (bthen (bnew (bid w) _) HB1.out) HB2.out⟩
                case false =>
                  have HV := hid (show amountsB ⟨eng, clk, str, rds, wrs, rty, fuel, most, ls, cs, ps⟩ ⟨ai, ni, ki, al, nl, kl, ac, nc, kc, ap, np, kp⟩ = false by rw [HA.out]; simp [hpm, he1, hk1, hk12, hr, hw, ht, hf])
                  rw [hpm] at HP
                  clear hpm HA
                  go_enter Tryz.func18, Tryz.ntmps18
                  go_wp2_with (first | (go_at_call 35; refine (HM.out _).mono ?_; rintro e w1 ⟨rfl, hb1⟩; have HB1 := hid hb1; obtain ⟨hc1, hf1, hz1⟩ := bcell hb1 (size_alloc1 _ _); clear hb1 hf1 hz1; dsimp only [Cfg.pm]) | (go_at_call 34; refine (HP.out _).mono ?_; rintro e w2 ⟨rfl, hb2⟩; have HB2 := hid hb2; have hc2 : ∀ o, w2.cell? ⟨w.heap.size, o, none⟩ = w1.cell? ⟨w.heap.size, o, none⟩ := (fun o => hb2.cell (p := ⟨w.heap.size, o, none⟩) (Nat.lt_of_lt_of_le (by rw [size_alloc1]; exact Nat.lt_succ_self _) HB1.out.size)); clear hb2) | (go_at_call 36; refine (kwithin_any _ _ _ _).mono ?_; rintro e w' ⟨rfl, rfl⟩) | (go_at_call 29; refine (New_any ((HE.out.below (bthen (bthen (bnew (bid w) _) HB1.out) HB2.out)).sents) 1 (by decide) (by decide)).mono ?_; rintro e w9 ⟨rfl, rfl⟩))
                  go_ret
                  exact ⟨_, rfl, (by rw [amounts_no HV.out]; exact ⟨by decide, by decide, rfl⟩), bthen (bthen (bnew (bid w) _) HB1.out) HB2.out⟩
              case false =>
                have HV := hid (show amountsB ⟨eng, clk, str, rds, wrs, rty, fuel, most, ls, cs, ps⟩ ⟨ai, ni, ki, al, nl, kl, ac, nc, kc, ap, np, kp⟩ = false by rw [HA.out]; simp [hpm, he1, hk1, hk12, hr, hw, ht])
                rw [hpm] at HP
                clear hpm HA
                go_enter Tryz.func18, Tryz.ntmps18
                go_wp2_with (first | (go_at_call 35; refine (HM.out _).mono ?_; rintro e w1 ⟨rfl, hb1⟩; have HB1 := hid hb1; obtain ⟨hc1, hf1, hz1⟩ := bcell hb1 (size_alloc1 _ _); clear hb1 hf1 hz1; dsimp only [Cfg.pm]) | (go_at_call 34; refine (HP.out _).mono ?_; rintro e w2 ⟨rfl, hb2⟩; have HB2 := hid hb2; have hc2 : ∀ o, w2.cell? ⟨w.heap.size, o, none⟩ = w1.cell? ⟨w.heap.size, o, none⟩ := (fun o => hb2.cell (p := ⟨w.heap.size, o, none⟩) (Nat.lt_of_lt_of_le (by rw [size_alloc1]; exact Nat.lt_succ_self _) HB1.out.size)); clear hb2) | (go_at_call 36; refine (kwithin_any _ _ _ _).mono ?_; rintro e w' ⟨rfl, rfl⟩) | (go_at_call 29; refine (New_any ((HE.out.below (bthen (bthen (bnew (bid w) _) HB1.out) HB2.out)).sents) 1 (by decide) (by decide)).mono ?_; rintro e w9 ⟨rfl, rfl⟩))
                go_ret
                exact ⟨_, rfl, (by rw [amounts_no HV.out]; exact ⟨by decide, by decide, rfl⟩), bthen (bthen (bnew (bid w) _) HB1.out) HB2.out⟩
            case false =>
              have HV := hid (show amountsB ⟨eng, clk, str, rds, wrs, rty, fuel, most, ls, cs, ps⟩ ⟨ai, ni, ki, al, nl, kl, ac, nc, kc, ap, np, kp⟩ = false by rw [HA.out]; simp [hpm, he1, hk1, hk12, hr, hw])
              rw [hpm] at HP
              clear hpm HA
              go_enter Tryz.func18, Tryz.ntmps18
              go_wp2_with (first | (go_at_call 35; refine (HM.out _).mono ?_; rintro e w1 ⟨rfl, hb1⟩; have HB1 := hid hb1; obtain ⟨hc1, hf1, hz1⟩ := bcell hb1 (size_alloc1 _ _); clear hb1 hf1 hz1; dsimp only [Cfg.pm]) | (go_at_call 34; refine (HP.out _).mono ?_; rintro e w2 ⟨rfl, hb2⟩; have HB2 := hid hb2; have hc2 : ∀ o, w2.cell? ⟨w.heap.size, o, none⟩ = w1.cell? ⟨w.heap.size, o, none⟩ := (fun o => hb2.cell (p := ⟨w.heap.size, o, none⟩) (Nat.lt_of_lt_of_le (by rw [size_alloc1]; exact Nat.lt_succ_self _) HB1.out.size)); clear hb2) | (go_at_call 36; refine (kwithin_any _ _ _ _).mono ?_; rintro e w' ⟨rfl, rfl⟩) | (go_at_call 29; refine (New_any ((HE.out.below (bthen (bthen (bnew (bid w) _) HB1.out) HB2.out)).sents) 1 (by decide) (by decide)).mono ?_; rintro e w9 ⟨rfl, rfl⟩))
              go_ret
              exact ⟨_, rfl, (by rw [amounts_no HV.out]; exact ⟨by decide, by decide, rfl⟩), bthen (bthen (bnew (bid w) _) HB1.out) HB2.out⟩
          case false =>
            have HV := hid (show amountsB ⟨eng, clk, str, rds, wrs, rty, fuel, most, ls, cs, ps⟩ ⟨ai, ni, ki, al, nl, kl, ac, nc, kc, ap, np, kp⟩ = false by rw [HA.out]; simp [hpm, he1, hk1, hk12, hr])
            rw [hpm] at HP
            clear hpm HA
            go_enter Tryz.func18, Tryz.ntmps18
            go_wp2_with (first | (go_at_call 35; refine (HM.out _).mono ?_; rintro e w1 ⟨rfl, hb1⟩; have HB1 := hid hb1; obtain ⟨hc1, hf1, hz1⟩ := bcell hb1 (size_alloc1 _ _); clear hb1 hf1 hz1; dsimp only [Cfg.pm]) | (go_at_call 34; refine (HP.out _).mono ?_; rintro e w2 ⟨rfl, hb2⟩; have HB2 := hid hb2; have hc2 : ∀ o, w2.cell? ⟨w.heap.size, o, none⟩ = w1.cell? ⟨w.heap.size, o, none⟩ := (fun o => hb2.cell (p := ⟨w.heap.size, o, none⟩) (Nat.lt_of_lt_of_le (by rw [size_alloc1]; exact Nat.lt_succ_self _) HB1.out.size)); clear hb2) | (go_at_call 36; refine (kwithin_any _ _ _ _).mono ?_; rintro e w' ⟨rfl, rfl⟩) | (go_at_call 29; refine (New_any ((HE.out.below (bthen (bthen (bnew (bid w) _) HB1.out) HB2.out)).sents) 1 (by decide) (by decide)).mono ?_; rintro e w9 ⟨rfl, rfl⟩))
            go_ret
            exact ⟨_, rfl, (by rw [amounts_no HV.out]; exact ⟨by decide, by decide, rfl⟩), bthen (bthen (bnew (bid w) _) HB1.out) HB2.out⟩
        case false =>
          have HV := hid (show amountsB ⟨eng, clk, str, rds, wrs, rty, fuel, most, ls, cs, ps⟩ ⟨ai, ni, ki, al, nl, kl, ac, nc, kc, ap, np, kp⟩ = false by rw [HA.out]; simp [hpm, he1, hk1, hk12])
          rw [hpm] at HP
          clear hpm HA
          go_enter Tryz.func18, Tryz.ntmps18
          go_wp2_with (first | (go_at_call 35; refine (HM.out _).mono ?_; rintro e w1 ⟨rfl, hb1⟩; have HB1 := hid hb1; obtain ⟨hc1, hf1, hz1⟩ := bcell hb1 (size_alloc1 _ _); clear hb1 hf1 hz1; dsimp only [Cfg.pm]) | (go_at_call 34; refine (HP.out _).mono ?_; rintro e w2 ⟨rfl, hb2⟩; have HB2 := hid hb2; have hc2 : ∀ o, w2.cell? ⟨w.heap.size, o, none⟩ = w1.cell? ⟨w.heap.size, o, none⟩ := (fun o => hb2.cell (p := ⟨w.heap.size, o, none⟩) (Nat.lt_of_lt_of_le (by rw [size_alloc1]; exact Nat.lt_succ_self _) HB1.out.size)); clear hb2) | (go_at_call 36; refine (kwithin_any _ _ _ _).mono ?_; rintro e w' ⟨rfl, rfl⟩) | (go_at_call 29; refine (New_any ((HE.out.below (bthen (bthen (bnew (bid w) _) HB1.out) HB2.out)).sents) 1 (by decide) (by decide)).mono ?_; rintro e w9 ⟨rfl, rfl⟩))
          go_ret
          exact ⟨_, rfl, (by rw [amounts_no HV.out]; exact ⟨by decide, by decide, rfl⟩), bthen (bthen (bnew (bid w) _) HB1.out) HB2.out⟩
    case false =>
      cases he12 : (eng == 2)
      case true =>
        cases hk1 : (clk == 1)
        case true =>
          cases hr : inB rds 1 32
          case true =>
            cases hw : inB wrs 1 32
            case true =>
              cases ht : inB rty 0 8
              case true =>
                cases hf : inB fuel 0 400
                case true =>
                  cases hm : decide (0 ≤ most)
                  case true =>
                    cases hn : decide (most ≤ 1099511627776)
                    case true =>
                      have HV := hid (show amountsB ⟨eng, clk, str, rds, wrs, rty, fuel, most, ls, cs, ps⟩ ⟨ai, ni, ki, al, nl, kl, ac, nc, kc, ap, np, kp⟩ = true by rw [HA.out]; simp [hpm, he1, he12, hk1, hr, hw, ht, hf, hm, hn])
                      rw [hpm] at HP
                      clear hpm HA
                      go_enter Tryz.func18, Tryz.ntmps18
                      go_wp2_with (first | (go_at_call 35; refine (HM.out _).mono ?_; rintro e w1 ⟨rfl, hb1⟩; have HB1 := hid hb1; obtain ⟨hc1, hf1, hz1⟩ := bcell hb1 (size_alloc1 _ _); clear hb1 hf1 hz1; dsimp only [Cfg.pm]) | (go_at_call 34; refine (HP.out _).mono ?_; rintro e w2 ⟨rfl, hb2⟩; have HB2 := hid hb2; have hc2 : ∀ o, w2.cell? ⟨w.heap.size, o, none⟩ = w1.cell? ⟨w.heap.size, o, none⟩ := (fun o => hb2.cell (p := ⟨w.heap.size, o, none⟩) (Nat.lt_of_lt_of_le (by rw [size_alloc1]; exact Nat.lt_succ_self _) HB1.out.size)); clear hb2) | (go_at_call 36; refine (kwithin_any _ _ _ _).mono ?_; rintro e w' ⟨rfl, rfl⟩) | (go_at_call 29; refine (New_any ((HE.out.below (bthen (bthen (bnew (bid w) _) HB1.out) HB2.out)).sents) 1 (by decide) (by decide)).mono ?_; rintro e w9 ⟨rfl, rfl⟩))
                      go_ret
                      exact ⟨_, rfl, (by rw [amounts_yes HV.out]; rfl), bthen (bthen (bnew (bid w) _) HB1.out) HB2.out⟩
                    case false =>
                      have HV := hid (show amountsB ⟨eng, clk, str, rds, wrs, rty, fuel, most, ls, cs, ps⟩ ⟨ai, ni, ki, al, nl, kl, ac, nc, kc, ap, np, kp⟩ = false by rw [HA.out]; simp [hpm, he1, he12, hk1, hr, hw, ht, hf, hm, hn])
                      rw [hpm] at HP
                      clear hpm HA
                      go_enter Tryz.func18, Tryz.ntmps18
                      go_wp2_with (first | (go_at_call 35; refine (HM.out _).mono ?_; rintro e w1 ⟨rfl, hb1⟩; have HB1 := hid hb1; obtain ⟨hc1, hf1, hz1⟩ := bcell hb1 (size_alloc1 _ _); clear hb1 hf1 hz1; dsimp only [Cfg.pm]) | (go_at_call 34; refine (HP.out _).mono ?_; rintro e w2 ⟨rfl, hb2⟩; have HB2 := hid hb2; have hc2 : ∀ o, w2.cell? ⟨w.heap.size, o, none⟩ = w1.cell? ⟨w.heap.size, o, none⟩ := (fun o => hb2.cell (p := ⟨w.heap.size, o, none⟩) (Nat.lt_of_lt_of_le (by rw [size_alloc1]; exact Nat.lt_succ_self _) HB1.out.size)); clear hb2) | (go_at_call 36; refine (kwithin_any _ _ _ _).mono ?_; rintro e w' ⟨rfl, rfl⟩) | (go_at_call 29; refine (New_any ((HE.out.below (bthen (bthen (bnew (bid w) _) HB1.out) HB2.out)).sents) 1 (by decide) (by decide)).mono ?_; rintro e w9 ⟨rfl, rfl⟩))
                      go_ret
                      exact ⟨_, rfl, (by rw [amounts_no HV.out]; exact ⟨by decide, by decide, rfl⟩), bthen (bthen (bnew (bid w) _) HB1.out) HB2.out⟩
                  case false =>
                    have HV := hid (show amountsB ⟨eng, clk, str, rds, wrs, rty, fuel, most, ls, cs, ps⟩ ⟨ai, ni, ki, al, nl, kl, ac, nc, kc, ap, np, kp⟩ = false by rw [HA.out]; simp [hpm, he1, he12, hk1, hr, hw, ht, hf, hm])
                    rw [hpm] at HP
                    clear hpm HA
                    go_enter Tryz.func18, Tryz.ntmps18
                    go_wp2_with (first | (go_at_call 35; refine (HM.out _).mono ?_; rintro e w1 ⟨rfl, hb1⟩; have HB1 := hid hb1; obtain ⟨hc1, hf1, hz1⟩ := bcell hb1 (size_alloc1 _ _); clear hb1 hf1 hz1; dsimp only [Cfg.pm]) | (go_at_call 34; refine (HP.out _).mono ?_; rintro e w2 ⟨rfl, hb2⟩; have HB2 := hid hb2; have hc2 : ∀ o, w2.cell? ⟨w.heap.size, o, none⟩ = w1.cell? ⟨w.heap.size, o, none⟩ := (fun o => hb2.cell (p := ⟨w.heap.size, o, none⟩) (Nat.lt_of_lt_of_le (by rw [size_alloc1]; exact Nat.lt_succ_self _) HB1.out.size)); clear hb2) | (go_at_call 36; refine (kwithin_any _ _ _ _).mono ?_; rintro e w' ⟨rfl, rfl⟩) | (go_at_call 29; refine (New_any ((HE.out.below (bthen (bthen (bnew (bid w) _) HB1.out) HB2.out)).sents) 1 (by decide) (by decide)).mono ?_; rintro e w9 ⟨rfl, rfl⟩))
                    go_ret
                    exact ⟨_, rfl, (by rw [amounts_no HV.out]; exact ⟨by decide, by decide, rfl⟩), bthen (bthen (bnew (bid w) _) HB1.out) HB2.out⟩
                case false =>
                  have HV := hid (show amountsB ⟨eng, clk, str, rds, wrs, rty, fuel, most, ls, cs, ps⟩ ⟨ai, ni, ki, al, nl, kl, ac, nc, kc, ap, np, kp⟩ = false by rw [HA.out]; simp [hpm, he1, he12, hk1, hr, hw, ht, hf])
                  rw [hpm] at HP
                  clear hpm HA
                  go_enter Tryz.func18, Tryz.ntmps18
                  go_wp2_with (first | (go_at_call 35; refine (HM.out _).mono ?_; rintro e w1 ⟨rfl, hb1⟩; have HB1 := hid hb1; obtain ⟨hc1, hf1, hz1⟩ := bcell hb1 (size_alloc1 _ _); clear hb1 hf1 hz1; dsimp only [Cfg.pm]) | (go_at_call 34; refine (HP.out _).mono ?_; rintro e w2 ⟨rfl, hb2⟩; have HB2 := hid hb2; have hc2 : ∀ o, w2.cell? ⟨w.heap.size, o, none⟩ = w1.cell? ⟨w.heap.size, o, none⟩ := (fun o => hb2.cell (p := ⟨w.heap.size, o, none⟩) (Nat.lt_of_lt_of_le (by rw [size_alloc1]; exact Nat.lt_succ_self _) HB1.out.size)); clear hb2) | (go_at_call 36; refine (kwithin_any _ _ _ _).mono ?_; rintro e w' ⟨rfl, rfl⟩) | (go_at_call 29; refine (New_any ((HE.out.below (bthen (bthen (bnew (bid w) _) HB1.out) HB2.out)).sents) 1 (by decide) (by decide)).mono ?_; rintro e w9 ⟨rfl, rfl⟩))
                  go_ret
                  exact ⟨_, rfl, (by rw [amounts_no HV.out]; exact ⟨by decide, by decide, rfl⟩), bthen (bthen (bnew (bid w) _) HB1.out) HB2.out⟩
              case false =>
                have HV := hid (show amountsB ⟨eng, clk, str, rds, wrs, rty, fuel, most, ls, cs, ps⟩ ⟨ai, ni, ki, al, nl, kl, ac, nc, kc, ap, np, kp⟩ = false by rw [HA.out]; simp [hpm, he1, he12, hk1, hr, hw, ht])
                rw [hpm] at HP
                clear hpm HA
                go_enter Tryz.func18, Tryz.ntmps18
                go_wp2_with (first | (go_at_call 35; refine (HM.out _).mono ?_; rintro e w1 ⟨rfl, hb1⟩; have HB1 := hid hb1; obtain ⟨hc1, hf1, hz1⟩ := bcell hb1 (size_alloc1 _ _); clear hb1 hf1 hz1; dsimp only [Cfg.pm]) | (go_at_call 34; refine (HP.out _).mono ?_; rintro e w2 ⟨rfl, hb2⟩; have HB2 := hid hb2; have hc2 : ∀ o, w2.cell? ⟨w.heap.size, o, none⟩ = w1.cell? ⟨w.heap.size, o, none⟩ := (fun o => hb2.cell (p := ⟨w.heap.size, o, none⟩) (Nat.lt_of_lt_of_le (by rw [size_alloc1]; exact Nat.lt_succ_self _) HB1.out.size)); clear hb2) | (go_at_call 36; refine (kwithin_any _ _ _ _).mono ?_; rintro e w' ⟨rfl, rfl⟩) | (go_at_call 29; refine (New_any ((HE.out.below (bthen (bthen (bnew (bid w) _) HB1.out) HB2.out)).sents) 1 (by decide) (by decide)).mono ?_; rintro e w9 ⟨rfl, rfl⟩))
                go_ret
                exact ⟨_, rfl, (by rw [amounts_no HV.out]; exact ⟨by decide, by decide, rfl⟩), bthen (bthen (bnew (bid w) _) HB1.out) HB2.out⟩
            case false =>
              have HV := hid (show amountsB ⟨eng, clk, str, rds, wrs, rty, fuel, most, ls, cs, ps⟩ ⟨ai, ni, ki, al, nl, kl, ac, nc, kc, ap, np, kp⟩ = false by rw [HA.out]; simp [hpm, he1, he12, hk1, hr, hw])
              rw [hpm] at HP
              clear hpm HA
              go_enter Tryz.func18, Tryz.ntmps18
              go_wp2_with (first | (go_at_call 35; refine (HM.out _).mono ?_; rintro e w1 ⟨rfl, hb1⟩; have HB1 := hid hb1; obtain ⟨hc1, hf1, hz1⟩ := bcell hb1 (size_alloc1 _ _); clear hb1 hf1 hz1; dsimp only [Cfg.pm]) | (go_at_call 34; refine (HP.out _).mono ?_; rintro e w2 ⟨rfl, hb2⟩; have HB2 := hid hb2; have hc2 : ∀ o, w2.cell? ⟨w.heap.size, o, none⟩ = w1.cell? ⟨w.heap.size, o, none⟩ := (fun o => hb2.cell (p := ⟨w.heap.size, o, none⟩) (Nat.lt_of_lt_of_le (by rw [size_alloc1]; exact Nat.lt_succ_self _) HB1.out.size)); clear hb2) | (go_at_call 36; refine (kwithin_any _ _ _ _).mono ?_; rintro e w' ⟨rfl, rfl⟩) | (go_at_call 29; refine (New_any ((HE.out.below (bthen (bthen (bnew (bid w) _) HB1.out) HB2.out)).sents) 1 (by decide) (by decide)).mono ?_; rintro e w9 ⟨rfl, rfl⟩))
              go_ret
              exact ⟨_, rfl, (by rw [amounts_no HV.out]; exact ⟨by decide, by decide, rfl⟩), bthen (bthen (bnew (bid w) _) HB1.out) HB2.out⟩
          case false =>
            have HV := hid (show amountsB ⟨eng, clk, str, rds, wrs, rty, fuel, most, ls, cs, ps⟩ ⟨ai, ni, ki, al, nl, kl, ac, nc, kc, ap, np, kp⟩ = false by rw [HA.out]; simp [hpm, he1, he12, hk1, hr])
            rw [hpm] at HP
            clear hpm HA
            go_enter Tryz.func18, Tryz.ntmps18
            go_wp2_with (first | (go_at_call 35; refine (HM.out _).mono ?_; rintro e w1 ⟨rfl, hb1⟩; have HB1 := hid hb1; obtain ⟨hc1, hf1, hz1⟩ := bcell hb1 (size_alloc1 _ _); clear hb1 hf1 hz1; dsimp only [Cfg.pm]) | (go_at_call 34; refine (HP.out _).mono ?_; rintro e w2 ⟨rfl, hb2⟩; have HB2 := hid hb2; have hc2 : ∀ o, w2.cell? ⟨w.heap.size, o, none⟩ = w1.cell? ⟨w.heap.size, o, none⟩ := (fun o => hb2.cell (p := ⟨w.heap.size, o, none⟩) (Nat.lt_of_lt_of_le (by rw [size_alloc1]; exact Nat.lt_succ_self _) HB1.out.size)); clear hb2) | (go_at_call 36; refine (kwithin_any _ _ _ _).mono ?_; rintro e w' ⟨rfl, rfl⟩) | (go_at_call 29; refine (New_any ((HE.out.below (bthen (bthen (bnew (bid w) _) HB1.out) HB2.out)).sents) 1 (by decide) (by decide)).mono ?_; rintro e w9 ⟨rfl, rfl⟩))
            go_ret
            exact ⟨_, rfl, (by rw [amounts_no HV.out]; exact ⟨by decide, by decide, rfl⟩), bthen (bthen (bnew (bid w) _) HB1.out) HB2.out⟩
        case false =>
          cases hk12 : (clk == 2)
          case true =>
            cases hr : inB rds 1 32
            case true =>
              cases hw : inB wrs 1 32
              case true =>
                cases ht : inB rty 0 8
                case true =>
                  cases hf : inB fuel 0 400
                  case true =>
                    cases hm : decide (0 ≤ most)
                    case true =>
                      cases hn : decide (most ≤ 1099511627776)
                      case true =>
                        have HV := hid (show amountsB ⟨eng, clk, str, rds, wrs, rty, fuel, most, ls, cs, ps⟩ ⟨ai, ni, ki, al, nl, kl, ac, nc, kc, ap, np, kp⟩ = true by rw [HA.out]; simp [hpm, he1, he12, hk1, hk12, hr, hw, ht, hf, hm, hn])
                        rw [hpm] at HP
                        clear hpm HA
                        go_enter Tryz.func18, Tryz.ntmps18
                        go_wp2_with (first | (go_at_call 35; refine (HM.out _).mono ?_; rintro e w1 ⟨rfl, hb1⟩; have HB1 := hid hb1; obtain ⟨hc1, hf1, hz1⟩ := bcell hb1 (size_alloc1 _ _); clear hb1 hf1 hz1; dsimp only [Cfg.pm]) | (go_at_call 34; refine (HP.out _).mono ?_; rintro e w2 ⟨rfl, hb2⟩; have HB2 := hid hb2; have hc2 : ∀ o, w2.cell? ⟨w.heap.size, o, none⟩ = w1.cell? ⟨w.heap.size, o, none⟩ := (fun o => hb2.cell (p := ⟨w.heap.size, o, none⟩) (Nat.lt_of_lt_of_le (by rw [size_alloc1]; exact Nat.lt_succ_self _) HB1.out.size)); clear hb2) | (go_at_call 36; refine (kwithin_any _ _ _ _).mono ?_; rintro e w' ⟨rfl, rfl⟩) | (go_at_call 29; refine (New_any ((HE.out.below (bthen (bthen (bnew (bid w) _) HB1.out) HB2.out)).sents) 1 (by decide) (by decide)).mono ?_; rintro e w9 ⟨rfl, rfl⟩))
                        go_ret
                        exact ⟨_, rfl, (by rw [amounts_yes HV.out]; rfl), bthen (bthen (bnew (bid w) _) HB1.out) HB2.out⟩
                      case false =>
                        have HV := hid (show amountsB ⟨eng, clk, str, rds, wrs, rty, fuel, most, ls, cs, ps⟩ ⟨ai, ni, ki, al, nl, kl, ac, nc, kc, ap, np, kp⟩ = false by rw [HA.out]; simp [hpm, he1, he12, hk1, hk12, hr, hw, ht, hf, hm, hn])
                        rw [hpm] at HP
                        clear hpm HA
                        go_enter Tryz.func18, Tryz.ntmps18
                        go_wp2_with (first | (go_at_call 35; refine (HM.out _).mono ?_; rintro e w1 ⟨rfl, hb1⟩; have HB1 := hid hb1; obtain ⟨hc1, hf1, hz1⟩ := bcell hb1 (size_alloc1 _ _); clear hb1 hf1 hz1; dsimp only [Cfg.pm]) | (go_at_call 34; refine (HP.out _).mono ?_; rintro e w2 ⟨rfl, hb2⟩; have HB2 := hid hb2; have hc2 : ∀ o, w2.cell? ⟨w.heap.size, o, none⟩ = w1.cell? ⟨w.heap.size, o, none⟩ := (fun o => hb2.cell (p := ⟨w.heap.size, o, none⟩) (Nat.lt_of_lt_of_le (by rw [size_alloc1]; exact Nat.lt_succ_self _) HB1.out.size)); clear hb2) | (go_at_call 36; refine (kwithin_any _ _ _ _).mono ?_; rintro e w' ⟨rfl, rfl⟩) | (go_at_call 29; refine (New_any ((HE.out.below (bthen (bthen (bnew (bid w) _) HB1.out) HB2.out)).sents) 1 (by decide) (by decide)).mono ?_; rintro e w9 ⟨rfl, rfl⟩))
                        go_ret
                        exact ⟨_, rfl, (by rw [amounts_no HV.out]; exact ⟨by decide, by decide, rfl⟩), bthen (bthen (bnew (bid w) _) HB1.out) HB2.out⟩
                    case false =>
                      have HV := hid (show amountsB ⟨eng, clk, str, rds, wrs, rty, fuel, most, ls, cs, ps⟩ ⟨ai, ni, ki, al, nl, kl, ac, nc, kc, ap, np, kp⟩ = false by rw [HA.out]; simp [hpm, he1, he12, hk1, hk12, hr, hw, ht, hf, hm])
                      rw [hpm] at HP
                      clear hpm HA
                      go_enter Tryz.func18, Tryz.ntmps18
                      go_wp2_with (first | (go_at_call 35; refine (HM.out _).mono ?_; rintro e w1 ⟨rfl, hb1⟩; have HB1 := hid hb1; obtain ⟨hc1, hf1, hz1⟩ := bcell hb1 (size_alloc1 _ _); clear hb1 hf1 hz1; dsimp only [Cfg.pm]) | (go_at_call 34; refine (HP.out _).mono ?_; rintro e w2 ⟨rfl, hb2⟩; have HB2 := hid hb2; have hc2 : ∀ o, w2.cell? ⟨w.heap.size, o, none⟩ = w1.cell? ⟨w.heap.size, o, none⟩ := (fun o => hb2.cell (p := ⟨w.heap.size, o, none⟩) (Nat.lt_of_lt_of_le (by rw [size_alloc1]; exact Nat.lt_succ_self _) HB1.out.size)); clear hb2) | (go_at_call 36; refine (kwithin_any _ _ _ _).mono ?_; rintro e w' ⟨rfl, rfl⟩) | (go_at_call 29; refine (New_any ((HE.out.below (bthen (bthen (bnew (bid w) _) HB1.out) HB2.out)).sents) 1 (by decide) (by decide)).mono ?_; rintro e w9 ⟨rfl, rfl⟩))
                      go_ret
                      exact ⟨_, rfl, (by rw [amounts_no HV.out]; exact ⟨by decide, by decide, rfl⟩), bthen (bthen (bnew (bid w) _) HB1.out) HB2.out⟩
                  case false =>
                    have HV := hid (show amountsB ⟨eng, clk, str, rds, wrs, rty, fuel, most, ls, cs, ps⟩ ⟨ai, ni, ki, al, nl, kl, ac, nc, kc, ap, np, kp⟩ = false by rw [HA.out]; simp [hpm, he1, he12, hk1, hk12, hr, hw, ht, hf])
                    rw [hpm] at HP
                    clear hpm HA
                    go_enter Tryz.func18, Tryz.ntmps18
                    go_wp2_with (first | (go_at_call 35; refine (HM.out _).mono ?_; rintro e w1 ⟨rfl, hb1⟩; have HB1 := hid hb1; obtain ⟨hc1, hf1, hz1⟩ := bcell hb1 (size_alloc1 _ _); clear hb1 hf1 hz1; dsimp only [Cfg.pm]) | (go_at_call 34; refine (HP.out _).mono ?_; rintro e w2 ⟨rfl, hb2⟩; have HB2 := hid hb2; have hc2 : ∀ o, w2.cell? ⟨w.heap.size, o, none⟩ = w1.cell? ⟨w.heap.size, o, none⟩ := (fun o => hb2.cell (p := ⟨w.heap.size, o, none⟩) (Nat.lt_of_lt_of_le (by rw [size_alloc1]; exact Nat.lt_succ_self _) HB1.out.size)); clear hb2) | (go_at_call 36; refine (kwithin_any _ _ _ _).mono ?_; rintro e w' ⟨rfl, rfl⟩) | (go_at_call 29; refine (New_any ((HE.out.below (bthen (bthen (bnew (bid w) _) HB1.out) HB2.out)).sents) 1 (by decide) (by decide)).mono ?_; rintro e w9 ⟨rfl, rfl⟩))
                    go_ret
                    exact ⟨_, rfl, (by rw [amounts_no HV.out]; exact ⟨by decide, by decide, rfl⟩), bthen (bthen (bnew (bid w) _) HB1.out) HB2.out⟩
                case false =>
                  have HV := hid (show amountsB ⟨eng, clk, str, rds, wrs, rty, fuel, most, ls, cs, ps⟩ ⟨ai, ni, ki, al, nl, kl, ac, nc, kc, ap, np, kp⟩ = false by rw [HA.out]; simp [hpm, he1, he12, hk1, hk12, hr, hw, ht])
                  rw [hpm] at HP
                  clear hpm HA
                  go_enter Tryz.func18, Tryz.ntmps18
                  go_wp2_with (first | (go_at_call 35; refine (HM.out _).mono ?_; rintro e w1 ⟨rfl, hb1⟩; have HB1 := hid hb1; obtain ⟨hc1, hf1, hz1⟩ := bcell hb1 (size_alloc1 _ _); clear hb1 hf1 hz1; dsimp only [Cfg.pm]) | (go_at_call 34; refine (HP.out _).mono ?_; rintro e w2 ⟨rfl, hb2⟩; have HB2 := hid hb2; have hc2 : ∀ o, w2.cell? ⟨w.heap.size, o, none⟩ = w1.cell? ⟨w.heap.size, o, none⟩ := (fun o => hb2.cell (p := ⟨w.heap.size, o, none⟩) (Nat.lt_of_lt_of_le (by rw [size_alloc1]; exact Nat.lt_succ_self _) HB1.out.size)); clear hb2) | (go_at_call 36; refine (kwithin_any _ _ _ _).mono ?_; rintro e w' ⟨rfl, rfl⟩) | (go_at_call 29; refine (New_any ((HE.out.below (bthen (bthen (bnew (bid w) _) HB1.out) HB2.out)).sents) 1 (by decide) (by decide)).mono ?_; rintro e w9 ⟨rfl, rfl⟩))
                  go_ret
                  exact ⟨_, rfl, (by rw [amounts_no HV.out]; exact ⟨by decide, by decide, rfl⟩), bthen (bthen (bnew (bid w) _) HB1.out) HB2.out⟩
              case false =>
                have HV := hid (show amountsB ⟨eng, clk, str, rds, wrs, rty, fuel, most, ls, cs, ps⟩ ⟨ai, ni, ki, al, nl, kl, ac, nc, kc, ap, np, kp⟩ = false by rw [HA.out]; simp [hpm, he1, he12, hk1, hk12, hr, hw])
                rw [hpm] at HP
                clear hpm HA
                go_enter Tryz.func18, Tryz.ntmps18
                go_wp2_with (first | (go_at_call 35; refine (HM.out _).mono ?_; rintro e w1 ⟨rfl, hb1⟩; have HB1 := hid hb1; obtain ⟨hc1, hf1, hz1⟩ := bcell hb1 (size_alloc1 _ _); clear hb1 hf1 hz1; dsimp only [Cfg.pm]) | (go_at_call 34; refine (HP.out _).mono ?_; rintro e w2 ⟨rfl, hb2⟩; have HB2 := hid hb2; have hc2 : ∀ o, w2.cell? ⟨w.heap.size, o, none⟩ = w1.cell? ⟨w.heap.size, o, none⟩ := (fun o => hb2.cell (p := ⟨w.heap.size, o, none⟩) (Nat.lt_of_lt_of_le (by rw [size_alloc1]; exact Nat.lt_succ_self _) HB1.out.size)); clear hb2) | (go_at_call 36; refine (kwithin_any _ _ _ _).mono ?_; rintro e w' ⟨rfl, rfl⟩) | (go_at_call 29; refine (New_any ((HE.out.below (bthen (bthen (bnew (bid w) _) HB1.out) HB2.out)).sents) 1 (by decide) (by decide)).mono ?_; rintro e w9 ⟨rfl, rfl⟩))
                go_ret
                exact ⟨_, rfl, (by rw [amounts_no HV.out]; exact ⟨by decide, by decide, rfl⟩), bthen (bthen (bnew (bid w) _) HB1.out) HB2.out⟩
            case false =>
              have HV := hid (show amountsB ⟨eng, clk, str, rds, wrs, rty, fuel, most, ls, cs, ps⟩ ⟨ai, ni, ki, al, nl, kl, ac, nc, kc, ap, np, kp⟩ = false by rw [HA.out]; simp [hpm, he1, he12, hk1, hk12, hr])
              rw [hpm] at HP
              clear hpm HA
              go_enter Tryz.func18, Tryz.ntmps18
              go_wp2_with (first | (go_at_call 35; refine (HM.out _).mono ?_; rintro e w1 ⟨rfl, hb1⟩; have HB1 := hid hb1; obtain ⟨hc1, hf1, hz1⟩ := bcell hb1 (size_alloc1 _ _); clear hb1 hf1 hz1; dsimp only [Cfg.pm]) | (go_at_call 34; refine (HP.out _).mono ?_; rintro e w2 ⟨rfl, hb2⟩; have HB2 := hid hb2; have hc2 : ∀ o, w2.cell? ⟨w.heap.size, o, none⟩ = w1.cell? ⟨w.heap.size, o, none⟩ := (fun o => hb2.cell (p := ⟨w.heap.size, o, none⟩) (Nat.lt_of_lt_of_le (by rw [size_alloc1]; exact Nat.lt_succ_self _) HB1.out.size)); clear hb2) | (go_at_call 36; refine (kwithin_any _ _ _ _).mono ?_; rintro e w' ⟨rfl, rfl⟩) | (go_at_call 29; refine (New_any ((HE.out.below (bthen (bthen (bnew (bid w) _) HB1.out) HB2.out)).sents) 1 (by decide) (by decide)).mono ?_; rintro e w9 ⟨rfl, rfl⟩))
              go_ret
              exact ⟨_, rfl, (by rw [amounts_no HV.out]; exact ⟨by decide, by decide, rfl⟩), bthen (bthen (bnew (bid w) _) HB1.out) HB2.out⟩
          case false =>
            have HV := hid (show amountsB ⟨eng, clk, str, rds, wrs, rty, fuel, most, ls, cs, ps⟩ ⟨ai, ni, ki, al, nl, kl, ac, nc, kc, ap, np, kp⟩ = false by rw [HA.out]; simp [hpm, he1, he12, hk1, hk12])
            rw [hpm] at HP
            clear hpm HA
            go_enter Tryz.func18, Tryz.ntmps18
            go_wp2_with (first | (go_at_call 35; refine (HM.out _).mono ?_; rintro e w1 ⟨rfl, hb1⟩; have HB1 := hid hb1; obtain ⟨hc1, hf1, hz1⟩ := bcell hb1 (size_alloc1 _ _); clear hb1 hf1 hz1; dsimp only [Cfg.pm]) | (go_at_call 34; refine (HP.out _).mono ?_; rintro e w2 ⟨rfl, hb2⟩; have HB2 := hid hb2; have hc2 : ∀ o, w2.cell? ⟨w.heap.size, o, none⟩ = w1.cell? ⟨w.heap.size, o, none⟩ := (fun o => hb2.cell (p := ⟨w.heap.size, o, none⟩) (Nat.lt_of_lt_of_le (by rw [size_alloc1]; exact Nat.lt_succ_self _) HB1.out.size)); clear hb2) | (go_at_call 36; refine (kwithin_any _ _ _ _).mono ?_; rintro e w' ⟨rfl, rfl⟩) | (go_at_call 29; refine (New_any ((HE.out.below (bthen (bthen (bnew (bid w) _) HB1.out) HB2.out)).sents) 1 (by decide) (by decide)).mono ?_; rintro e w9 ⟨rfl, rfl⟩))
            go_ret
            exact ⟨_, rfl, (by rw [amounts_no HV.out]; exact ⟨by decide, by decide, rfl⟩), bthen (bthen (bnew (bid w) _) HB1.out) HB2.out⟩
      case false =>
        have HV := hid (show amountsB ⟨eng, clk, str, rds, wrs, rty, fuel, most, ls, cs, ps⟩ ⟨ai, ni, ki, al, nl, kl, ac, nc, kc, ap, np, kp⟩ = false by rw [HA.out]; simp [hpm, he1, he12])
        rw [hpm] at HP
        clear hpm HA
        go_enter Tryz.func18, Tryz.ntmps18
        go_wp2_with (first | (go_at_call 35; refine (HM.out _).mono ?_; rintro e w1 ⟨rfl, hb1⟩; have HB1 := hid hb1; obtain ⟨hc1, hf1, hz1⟩ := bcell hb1 (size_alloc1 _ _); clear hb1 hf1 hz1; dsimp only [Cfg.pm]) | (go_at_call 34; refine (HP.out _).mono ?_; rintro e w2 ⟨rfl, hb2⟩; have HB2 := hid hb2; have hc2 : ∀ o, w2.cell? ⟨w.heap.size, o, none⟩ = w1.cell? ⟨w.heap.size, o, none⟩ := (fun o => hb2.cell (p := ⟨w.heap.size, o, none⟩) (Nat.lt_of_lt_of_le (by rw [size_alloc1]; exact Nat.lt_succ_self _) HB1.out.size)); clear hb2) | (go_at_call 36; refine (kwithin_any _ _ _ _).mono ?_; rintro e w' ⟨rfl, rfl⟩) | (go_at_call 29; refine (New_any ((HE.out.below (bthen (bthen (bnew (bid w) _) HB1.out) HB2.out)).sents) 1 (by decide) (by decide)).mono ?_; rintro e w9 ⟨rfl, rfl⟩))
        go_ret
        exact ⟨_, rfl, (by rw [amounts_no HV.out]; exact ⟨by decide, by decide, rfl⟩), bthen (bthen (bnew (bid w) _) HB1.out) HB2.out⟩
  case false =>
    have HV := hid (show amountsB ⟨eng, clk, str, rds, wrs, rty, fuel, most, ls, cs, ps⟩ ⟨ai, ni, ki, al, nl, kl, ac, nc, kc, ap, np, kp⟩ = false by rw [HA.out]; simp [hpm])
    rw [hpm] at HP
    clear hpm HA
    go_enter Tryz.func18, Tryz.ntmps18
    go_wp2_with (first | (go_at_call 35; refine (HM.out _).mono ?_; rintro e w1 ⟨rfl, hb1⟩; have HB1 := hid hb1; obtain ⟨hc1, hf1, hz1⟩ := bcell hb1 (size_alloc1 _ _); clear hb1 hf1 hz1; dsimp only [Cfg.pm]) | (go_at_call 34; refine (HP.out _).mono ?_; rintro e w2 ⟨rfl, hb2⟩; have HB2 := hid hb2; have hc2 : ∀ o, w2.cell? ⟨w.heap.size, o, none⟩ = w1.cell? ⟨w.heap.size, o, none⟩ := (fun o => hb2.cell (p := ⟨w.heap.size, o, none⟩) (Nat.lt_of_lt_of_le (by rw [size_alloc1]; exact Nat.lt_succ_self _) HB1.out.size)); clear hb2) | (go_at_call 36; refine (kwithin_any _ _ _ _).mono ?_; rintro e w' ⟨rfl, rfl⟩) | (go_at_call 29; refine (New_any ((HE.out.below (bthen (bthen (bnew (bid w) _) HB1.out) HB2.out)).sents) 1 (by decide) (by decide)).mono ?_; rintro e w9 ⟨rfl, rfl⟩))
    go_ret
    exact ⟨_, rfl, (by rw [amounts_no HV.out]; exact ⟨by decide, by decide, rfl⟩), bthen (bthen (bnew (bid w) _) HB1.out) HB2.out⟩

end Go.Proofs.YtblalejegjieaaaGreatDoor
