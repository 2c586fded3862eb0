/-
  McsNodes: each thread has for each lock a node of its own.
-/
import Derived.Test.YtmngpgocpamfgaaMcsE
import Derived.Test.YtmngpgocpamfgaaNearM
import Derived.Maps.OwnOps
import Derived.Maps.Views
namespace Go.Proofs.Ytmngpgocpamfgaa
open Go.RowKit Go.Maps
attribute [local go_sem] Later.cell Later.frozen

theorem lawI : Keyed Try.prog 2 := int_keyed Try.underlying2
theorem zeroI (w : World) : (zeroValue 3).run Try.prog w = .ok (.int .i64 0) w := by kernel_rfl

/-- What the map of numbers tells when so many are there: of no other number anything. -/
def Numd (n : Nat) (D : DataW Unit) : Prop := ∀ x : Int, (x < 1 ∨ (n : Int) < x) → D.atKey (.int .i64 x) (.lit (.int .i64 0)) = .lit (.int .i64 0)
theorem Numd.start : Numd 0 (.map []) := fun _ _ => rfl
theorem Numd.step {n : Nat} {D : DataW Unit} (h : Numd n D) : Numd (n + 1) (D.put (.int .i64 (n + 1 : Int)) (.lit (.int .i64 1))) := by
  intro x hx
  rw [atKey_put_other (by intro e; simp only [Lit.int.injEq] at e; omega)]
  exact h x (by omega)
theorem ownsMap_below {P : Program} {k : TypeId} {R : Value → Option (DataW Unit × List MemPlace)} {w w' : World} {b n : Nat} {D : DataW Unit} (h : w.ownsMap P k R b n D) (hb : Below w.heap.size w w') : w'.ownsMap P k R b n D := by
  obtain ⟨es, clock, h1, F, hs, hD⟩ := h
  exact ⟨es, clock, (hb.block b (Array.getElem?_eq_some_iff.1 h1).1).trans h1, F, hs, hD⟩
theorem zero_of {q : Int} (h : (DataW.lit (.int .i64 q) : DataW Unit) = .lit (.int .i64 0)) : q = 0 := by simpa using h

/-- What both loops keep: so many numbers are in the map. -/
def NdAt (w : World) (q g : Nat) (m : PM) (n : Nat) (W : World) : Prop :=
  ∃ D : DataW Unit, Numd n D ∧ W.ownsMap Try.prog 2 (plainElem Try.prog 3) g n D ∧ MapAt 27 W q m ∧ Below w.heap.size w W ∧ q ≠ g ∧ w.heap.size ≤ g

theorem mul_next (i L : Int) : (i + 1) * L = i * L + L := by rw [Int.add_mul, Int.one_mul]

set_option maxRecDepth 100000 in
set_option maxHeartbeats 4000000 in
theorem mnodes_any (k0 k1 k2 k3 k4 : Int) (w : World) :
    Calls Try.prog 7 #[.agg #[.int .i64 k0, .int .i64 k1, .int .i64 k2, .int .i64 k3, .int .i64 k4]] w fun e w' => e = .returned (.bool true) ∧ Below w.heap.size w w' := by
  have hmm := @run_makeMap Try.prog
  go_enter Try.func7, Try.ntmps7
  go_upto_region 3 with (go_at_call 33; (with_reducible refine (Near_ex _ _ _ _ _ _).mono ?_); rintro e w1 ⟨⟨s, ml, mt, c, d, hok, rfl⟩, hb1⟩; have HOK := hid hok; have HB1 := hid (bthen (bnew (bid w) _) hb1); clear hb1 hok)
  obtain ⟨L, hL⟩ : ∃ L : Nat, ml = L := ⟨ml.toNat, by have := HOK.out.l1; simp only at this; omega⟩
  obtain ⟨N, hN⟩ : ∃ N : Nat, mt = N := ⟨mt.toNat, by have := HOK.out.t1; simp only at this; omega⟩
  subst hL hN
  refine wp_rename (fun W => NdAt w w1.heap.size (w1.heap.size + 1) ⟨s, L, N, c, d⟩ 0 W) (by
    have h1 := World.ownsMap_made (H := Unit) (w1.alloc (.cells (PM.mk s L N c d).cells 27)) Try.prog 2 (plainElem Try.prog 3)
    rw [size_alloc1] at h1
    have h2 := HB1.out.size
    exact ⟨_, Numd.start, h1, (MapAt.new 27 w1 ⟨s, L, N, c, d⟩).alloc _, bnew (bnew HB1.out _) _, by omega, by omega⟩) ?_
  generalize w1.heap.size = q
  generalize q + 1 = g
  clear HB1 hmm
  intro W hk
  have HK := hid hk
  clear hk
  have hl4 : (L : Int) ≤ 4 := HOK.out.l2
  have ht4 : (N : Int) ≤ 4 := HOK.out.t2
  have hl0 : (0 : Int) ≤ (L : Int) := by omega
  have ht0 : (1 : Int) ≤ (N : Int) := HOK.out.t1
  go_wp2_with fail
  go_loopw [5] (fun i W => ∃ k : Nat, k ≤ N ∧ i = .int .i64 k ∧ NdAt w q g ⟨s, L, N, c, d⟩ (k * L) W) (fun i _ => N - (intOf i).toNat)
  case atStart => exact ⟨0, by omega, rfl, by rw [Nat.zero_mul]; exact HK.out⟩
  case round =>
    clear HK
    obtain ⟨k, hk, rfl, hR⟩ := hrel
    have HK := hid hR
    clear hR
    by_cases hlt : k < N
    · have i1 : (0 : Int) ≤ (k : Int) := by omega
      have i2 : (k : Int) < (N : Int) := by omega
      obtain ⟨D0, _, _, hm0, _⟩ := HK.out
      obtain ⟨m0, m1, m2, m3, m4, zm⟩ := hm0.facts
      clear hm0
      go_wp2_with fail
      go_loopw [6] (fun i W => ∃ l : Nat, l ≤ L ∧ i = .int .i64 l ∧ NdAt w q g ⟨s, L, N, c, d⟩ (k * L + l) W) (fun i _ => L - (intOf i).toNat)
      case atStart => exact ⟨0, by omega, rfl, HK.out⟩
      case round =>
        clear HK m0 m1 m2 m3 m4 zm
        obtain ⟨l, hl, rfl, D, hnm, hown, hm, hb, hqg, hwg⟩ := hrel
        have HN := hid hnm
        have HW := hid hown
        have HM := hid hm
        have HB := hid hb
        obtain ⟨m0, m1, m2, m3, m4, zm⟩ := hm.facts
        clear hnm hown hm hb
        by_cases hll : l < L
        · have j1 : (0 : Int) ≤ (l : Int) := by omega
          have j2 : (l : Int) < (L : Int) := by omega
          have hnb := node_bounds HOK.out (a := k) (b := l) i1 i2 j1 j2
          have HIK := hid (fun (x : World) => Id_any ⟨s, L, N, c, d⟩ k l x)
          have hv : idF ⟨s, L, N, c, d⟩ k l = ((k * L + l : Nat) : Int) + 1 := by
            unfold idF
            rw [if_pos ⟨HOK.out, i1, i2, j1, j2⟩]
            simp only
            rw [Int.natCast_add, Int.natCast_mul]
            omega
          rw [hv] at HIK
          have hnb2 : ((k * L + l : Nat) : Int) + 1 ≤ (N : Int) * (L : Int) ∧ (N : Int) * (L : Int) ≤ 16 := by
            obtain ⟨_, _, g3, g4⟩ := hnb
            simp only at g3 g4
            rw [Int.natCast_add, Int.natCast_mul]
            omega
          clear hv hnb
          have HNX := hid (show k * L + (l + 1) = k * L + l + 1 from rfl)
          generalize k * L + l = n at *
          obtain ⟨p1, p2⟩ := hnb2
          have p0 : (0 : Int) ≤ (n : Int) := by omega
          have HA := hid (HN.out ((n : Int) + 1) (by omega))
          have HN2 := hid HN.out.step
          have HKY := hid (keyOf_int_mk (P := Try.prog) (k := 2) (q := .i64) (a := (n : Int) + 1) Try.underlying2 (by show (decide ((-9223372036854775808 : Int) ≤ (n : Int) + 1) && decide ((n : Int) + 1 ≤ 9223372036854775807)) = true; rw [decide_eq_true (by omega), decide_eq_true (by omega)]; rfl))
          have HMX := hid (show n < maxLen from by unfold maxLen; omega)
          have HQG := hid (And.intro hqg hwg)
          obtain ⟨P, hP⟩ : ∃ P : Int, P = (N : Int) * (L : Int) := ⟨_, rfl⟩
          have hw1 : wrap64 ((N : Int) * (L : Int)) = P := by rw [wrap_small (by omega) (by omega)]; exact hP.symm
          have hb1 : decide ((n : Int) + 1 < 1) = false := decide_eq_false (by omega)
          have hb3 : ¬ P < (n : Int) + 1 := by rw [hP]; exact Int.not_lt.2 p1
          have hb2 : decide (P < (n : Int) + 1) = false := decide_eq_false hb3
          have hl5 : (l : Int) < 4 := Int.lt_of_lt_of_le j2 hl4
          have HL1 := hid (show l + 1 ≤ L from hll)
          have HP3 := hid (And.intro p1 (And.intro p2 hP))
          clear p1 p2 hP
          clear hqg hwg hl hk hl4 ht4 hl0 ht0
          go_wp2_with (first | (go_at_call 23; (with_reducible refine (HIK.out _).mono ?_); rintro e w4 ⟨rfl, hb4⟩; obtain ⟨hc4, hf4, hz4⟩ := bcell hb4 rfl; have HB4 := hid hb4; have HW4 := hid (ownsMap_below HW.out hb4); clear hb4; obtain ⟨qq, hrun, hat, hwq⟩ := HW4.out.lookup_int lawI Try.underlying66 Try.underlying3 (zeroI _) HKY.out; obtain rfl := zero_of (hat.symm.trans HA.out); clear hat hwq) | (at_mapUpdate; refine wpList_mapUpdate_own (H := Unit) _ rfl _ _ _ 66 rfl 2 3 lawI Try.underlying66 (plainElem Try.prog 3) g n D rfl HW4.out HMX.out _ _ _ rfl rfl HKY.out _ [] (plainElem_int Try.underlying3 (by decide)) ?_; intro w5 hown5 hg5))
          go_roundw
          case rel =>
            refine ⟨l + 1, HL1.out, by go_num, _, by rw [HNX.out]; exact HN2.out, by rw [HNX.out]; exact hown5, ?_, ?_, HQG.out.1, HQG.out.2⟩
            · exact (hg5.block _ (Nat.lt_of_lt_of_le zm hz4) (fun e => HQG.out.1 (by injection e))).trans (HM.out.below HB4.out)
            · exact (bthen HB.out HB4.out).grown hg5 (Nat.le_trans HB.out.size hz4) (fun k hk => by cases hk; exact HQG.out.2)
          case measure => simp [intOf]; omega
        · obtain rfl : l = L := by omega
          go_wp2_with fail
          go_roundw
          case rel => exact ⟨k + 1, by omega, by go_num, D, by rw [Nat.succ_mul]; exact HN.out, by rw [Nat.succ_mul]; exact HW.out, HM.out, HB.out, hqg, hwg⟩
          case measure => simp [intOf]; omega
    · obtain rfl : k = N := by omega
      obtain ⟨D0, _, _, hm0, hb0, _⟩ := HK.out
      obtain ⟨m0, m1, m2, m3, m4, zm⟩ := hm0.facts
      have HM := hid hm0
      have HB := hid hb0
      have HI1 := hid (fun (x : World) => (show Calls Try.prog 23 #[(PM.mk s L k c d).v, .int .i64 (-1), .int .i64 0] x fun e w' => e = .returned (.int .i64 0) ∧ Below x.heap.size x w' from by
        have := Id_any ⟨s, L, k, c, d⟩ (-1) 0 x
        rwa [show idF ⟨s, L, k, c, d⟩ (-1) 0 = 0 from if_neg (by omega)] at this))
      have HI2 := hid (fun (x : World) => (show Calls Try.prog 23 #[(PM.mk s L k c d).v, .int .i64 0, .int .i64 L] x fun e w' => e = .returned (.int .i64 0) ∧ Below x.heap.size x w' from by
        have := Id_any ⟨s, L, k, c, d⟩ 0 L x
        rwa [show idF ⟨s, L, k, c, d⟩ 0 L = 0 from if_neg (by simp only; omega)] at this))
      have HI3 := hid (fun (x : World) => (show Calls Try.prog 23 #[(PM.mk s L k c d).v, .int .i64 k, .int .i64 0] x fun e w' => e = .returned (.int .i64 0) ∧ Below x.heap.size x w' from by
        have := Id_any ⟨s, L, k, c, d⟩ k 0 x
        rwa [show idF ⟨s, L, k, c, d⟩ k 0 = 0 from if_neg (by simp only; omega)] at this))
      clear hm0 hb0
      go_wp2_with (first | (go_at_call 8; (with_reducible refine (told9_any _).mono ?_); rintro e w6 ⟨rfl, hb6⟩; have HM := hid (HM.out.below hb6); have HB := hid (bthen HB.out hb6); clear hb6 m0 m1 m2 m3 m4 zm; obtain ⟨m0, m1, m2, m3, m4, zm⟩ := HM.out.facts) | (go_at_call 23; first | ((with_reducible refine (HI1.out _).mono ?_); rintro e w7 ⟨rfl, hb7⟩; have HM := hid (HM.out.below hb7); have HB := hid (bthen HB.out hb7); clear hb7 m0 m1 m2 m3 m4 zm; obtain ⟨m0, m1, m2, m3, m4, zm⟩ := HM.out.facts) | ((with_reducible refine (HI2.out _).mono ?_); rintro e w8 ⟨rfl, hb8⟩; have HM := hid (HM.out.below hb8); have HB := hid (bthen HB.out hb8); clear hb8 m0 m1 m2 m3 m4 zm; obtain ⟨m0, m1, m2, m3, m4, zm⟩ := HM.out.facts) | ((with_reducible refine (HI3.out _).mono ?_); rintro e w9 ⟨rfl, hb9⟩; have HM := hid (HM.out.below hb9); have HB := hid (bthen HB.out hb9); clear hb9 m0 m1 m2 m3 m4 zm)))
      go_ret
      exact ⟨rfl, HB.out⟩

end Go.Proofs.Ytmngpgocpamfgaa
