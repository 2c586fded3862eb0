/-
  CheckRegion: walked.
-/
import Derived.Test.YtkeokjfogmpknaaDoorKTold
namespace Go.Proofs.YtkeokjfogmpknaaDoor
open Go.RowKit
set_option linter.unusedVariables false

theorem regF_lo : ∀ (ls : List Lk) (k : Nat) (d : Int), -1 ≤ regF ls k d ∧ regF ls k d < (k : Int) + ls.length := by
  intro ls
  induction ls with
  | nil => intro k d; unfold regF; simp; omega
  | cons l r ih =>
    intro k d
    unfold regF
    split
    · simp; omega
    · have := ih (k + 1) d
      simp only [List.length_cons]
      omega
theorem regF_at : ∀ (ls : List Lk) (k : Nat) (d : Int) (i : Nat) (l : Lk), ls[i]? = some l → (regF ls k d < 0 ∨ ((k + i : Nat) : Int) ≤ regF ls k d) → (hasB l d = true ↔ regF ls k d = ((k + i : Nat) : Int)) := by
  intro ls
  induction ls with
  | nil => intro k d i l h; simp at h
  | cons x r ih =>
    intro k d i l h hr
    unfold regF at hr ⊢
    cases i with
    | zero =>
      simp only [List.getElem?_cons_zero, Option.some.injEq] at h
      subst h
      by_cases hx : hasB x d = true
      · simp [hx]
      · have hlo := (regF_lo r (k + 1) d).1
        simp only [if_neg hx] at hr ⊢
        constructor
        · intro h; exact absurd h hx
        · intro h
          exfalso
          have key : ∀ (r : List Lk) (k : Nat), regF r (k + 1) d = -1 ∨ (k : Int) < regF r (k + 1) d := by
            intro r
            induction r with
            | nil => intro k; left; rfl
            | cons y r ih =>
              intro k
              unfold regF
              split
              · right; omega
              · rcases ih (k + 1) with h | h
                · left; exact h
                · right; omega
          rcases key r k with h' | h' <;> omega
    | succ i =>
      simp only [List.getElem?_cons_succ] at h
      by_cases hx : hasB x d = true
      · simp only [if_pos hx] at hr
        omega
      · simp only [if_neg hx] at hr ⊢
        have := ih (k + 1) d i l h (by rcases hr with h | h <;> omega)
        rw [this, show k + 1 + i = k + (i + 1) by omega]

def cfgL (ls : List Lk) : Cfg := ⟨0, 0, 0, 0, 0, 0, 0, 0, ls, [], []⟩
theorem reg_locks : regionF (build6 k80 []).locks 4 = 1 ∧ regionF (build6 k80 []).locks 9 = -1 := by decide +kernel

set_option maxRecDepth 100000 in
set_option maxHeartbeats 8000000 in
theorem region_all {sb : Nat → Addr} (a : Option Addr) (n c : Nat) (ls : List Lk) (d : Int) (w : World) (hE : Errs sb w) (hr : LkRow w a n ls) (hn : n ≤ maxLen) (d0 : -9223372036854775808 ≤ d) (d1 : d ≤ 9223372036854775807) :
    Calls Tryd.prog 9 #[.slice a n c, .int .i64 d] w fun e w' => e = .returned (.bool true) ∧ Below w.heap.size w w' := by
  unfold maxLen at hn
  have HE := hid hE
  have HR := hid hr
  clear hE hr
  have hn' : (n : Int) ≤ 9223372036854775807 := by omega
  by_cases h6 : 6 < n
  · have e6 : (6 : Int) < (n : Int) := by omega
    go_enter Tryd.func9, Tryd.ntmps9
    go_wp2_with (go_at_call 24; refine (told6_any w HE.out).mono ?_; rintro e w1 ⟨rfl, hb1⟩; have HB1 := hid hb1; clear hb1)
    go_ret
    exact ⟨rfl, HB1.out⟩
  · have e6 : ¬ (6 : Int) < (n : Int) := by omega
    have HCI := hid (fun (W : World) (hb : Below w.heap.size w W) => (show CfgIn W (cfgL ls) { cv0 with al := a, nl := n, kl := c } from ⟨HR.out.below hb, ⟨rfl, .inl ⟨rfl, rfl⟩⟩, ⟨rfl, .inl ⟨rfl, rfl⟩⟩, Nat.zero_le _, by dsimp only; omega, Nat.zero_le _, Nat.zero_le _⟩))
    have HRG := hid (fun (W : World) (hb : Below w.heap.size w W) => Region_any (cfgL ls) { cv0 with al := a, nl := n, kl := c } d W (HCI.out W hb) d0 d1)
    have HLO := hid (regF_lo ls 0 d)
    have HAT := hid (fun (i : Nat) (l : Lk) (h : ls[i]? = some l) => regF_at ls 0 d i l h)
    have HREG : Hid (regionF (cfgL ls).locks d = regF ls 0 d) := hid rfl
    rw [HREG.out] at HRG
    have hcnt := HR.out.cnt
    generalize regF ls 0 d = r at HRG HLO HAT
    obtain ⟨r0, r1⟩ := HLO.out
    have r2 : r < (n : Int) := by omega
    have r1' : r ≤ 6 := by omega
    clear r1 HLO HREG
    go_enter Tryd.func9, Tryd.ntmps9
    go_upto_region 5 with (go_at_call 32; go_must (refine (HRG.out _ (bnew (bid w) _)).mono ?_; rintro e w1 ⟨rfl, hb1⟩; have HB1 := hid (bthen (bnew (bid w) _) hb1); clear hb1))
    clear HRG HCI
    go_wp2
    go_loopw [7] (fun i wr => ∃ k : Nat, k ≤ n ∧ i = .int .i64 k ∧ Below w.heap.size w wr) (fun i _ => n - (intOf i).toNat)
    case atStart => exact ⟨0, Nat.zero_le _, rfl, HB1.out⟩
    case round =>
      clear HB1
      obtain ⟨k, hk, rfl, hb⟩ := hrel
      have HB := hid hb
      clear hb
      by_cases hlt : k < n
      · have hll : k < ls.length := by omega
        obtain ⟨b, off, rfl, hbl, hcell⟩ := HR.out.at (by omega)
        have hL := (hcell k ls[k] (List.getElem?_eq_getElem hll)).keep (HB.out.block b hbl)
        have hwf := HR.out.wf ls[k] (List.getElem_mem hll)
        have HH := hid (HAT.out k ls[k] (List.getElem?_eq_getElem hll))
        rw [Nat.zero_add] at HH
        generalize ls[k] = l at hL hwf HH
        obtain ⟨lk, lf, ll⟩ := l
        obtain ⟨f0, f1, l0, l1⟩ := hwf
        obtain ⟨c0, c1, c2⟩ := hL
        dsimp only at f0 f1 l0 l1 c0 c1 c2
        have i0 : (0 : Int) ≤ (k : Int) := by omega
        have i1 : (k : Int) < ((n : Nat) : Int) := by omega
        clear hcell
        -- what has been found decides what is told here
        have hcs : (hasB ⟨lk, lf, ll⟩ d = true ∧ (r = (k : Int) ∨ (0 ≤ r ∧ r < (k : Int)))) ∨ (hasB ⟨lk, lf, ll⟩ d = false ∧ r ≠ (k : Int)) := by
          by_cases hx : r < 0 ∨ (k : Int) ≤ r
          · have := HH.out hx
            cases hh : hasB ⟨lk, lf, ll⟩ d
            · right
              refine ⟨rfl, fun e => ?_⟩
              rw [this.2 e] at hh
              cases hh
            · left
              exact ⟨rfl, .inl (this.1 hh)⟩
          · cases hh : hasB ⟨lk, lf, ll⟩ d
            · right
              exact ⟨rfl, by omega⟩
            · left
              exact ⟨rfl, .inr (by omega)⟩
        clear HH
        by_cases h1 : 0 < ll
        · by_cases h2 : lf ≤ d
          · have e1 := u64_sub_in f0 d1 h2
            have e2 := u64_in (d := ll) (by omega) l1
            by_cases h3 : d - lf < ll
            · have hV : hasB ⟨lk, lf, ll⟩ d = true := (hasB_iff (l := ⟨lk, lf, ll⟩) (d := d)).2 ⟨h1, h2, h3⟩
              have hr2 : r = (k : Int) ∨ (0 ≤ r ∧ r < (k : Int)) := by
                rcases hcs with ⟨_, h⟩ | ⟨h, _⟩
                · exact h
                · rw [hV] at h; cases h
              clear hcs hV
              rcases hr2 with rfl | ⟨hr2, hr3⟩
              · go_wp2
                exact ⟨⟨k + 1, by omega, by go_num, bnew HB.out _⟩, by simp [intOf]; omega⟩
              · have x1 : ¬ r = (k : Int) := by omega
                have x2 : ¬ r < 0 := by omega
                have x3 : ¬ (k : Int) ≤ r := by omega
                go_wp2
                exact ⟨⟨k + 1, by omega, by go_num, bnew HB.out _⟩, by simp [intOf]; omega⟩
            · have hr2 : ¬ r = (k : Int) := by
                rcases hcs with ⟨h, _⟩ | ⟨_, h⟩
                · exact absurd ((hasB_iff (l := ⟨lk, lf, ll⟩) (d := d)).1 h).2.2 h3
                · exact h
              clear hcs
              go_wp2
              exact ⟨⟨k + 1, by omega, by go_num, bnew HB.out _⟩, by simp [intOf]; omega⟩
          · have hr2 : ¬ r = (k : Int) := by
              rcases hcs with ⟨h, _⟩ | ⟨_, h⟩
              · exact absurd ((hasB_iff (l := ⟨lk, lf, ll⟩) (d := d)).1 h).2.1 h2
              · exact h
            clear hcs
            go_wp2
            exact ⟨⟨k + 1, by omega, by go_num, bnew HB.out _⟩, by simp [intOf]; omega⟩
        · have hr2 : ¬ r = (k : Int) := by
            rcases hcs with ⟨h, _⟩ | ⟨_, h⟩
            · exact absurd ((hasB_iff (l := ⟨lk, lf, ll⟩) (d := d)).1 h).1 h1
            · exact h
          clear hcs
          go_wp2
          exact ⟨⟨k + 1, by omega, by go_num, bnew HB.out _⟩, by simp [intOf]; omega⟩
      · have e : k = n := by omega
        subst e
        clear hlt HAT
        have HBN := hid (Build_any k80 none 0 0 [] wr ⟨rfl, .inl ⟨rfl, rfl⟩⟩ (by decide))
        have HQ := hid reg_locks
        generalize build6 k80 [] = cc at HBN HQ
        go_upto_region 13 with (go_at_call 25; go_must (refine HBN.out.mono ?_; rintro e w2 ⟨s, rfl, hbt, hni, hb2⟩; have HBU := hid hbt; have HB2 := hid (bthen HB.out hb2); clear hbt hni hb2))
        refine wp_rename (fun W => Below w.heap.size w W ∧ Built wr.heap.size cc s (initF 9) W ∧ CfgBox W w2.heap.size cc s) ⟨bnew HB2.out _, HBU.out.below (bnew (bid _) _), CfgBox.new _ _ _⟩ ?_
        rintro W3 ⟨hb3, hbu3, hbx3⟩
        generalize w2.heap.size = q at hbx3 ⊢
        have HB3 := hid hb3
        have HU3 := hid hbu3
        have HX3 := hid hbx3
        clear hb3 hbu3 hbx3
        have r3 : r < (k : Int) := r2
        go_wp2_with (first | (go_at_call 24; go_must (refine (told6_any _ (HE.out.below HB3.out)).mono ?_; rintro e w4 ⟨rfl, hb4⟩; have HB4 := hid (bthen HB3.out hb4); have HU4 := hid (HU3.out.below hb4); obtain ⟨k0, k1, k2, k3, k4, k5, k6, k7, k8, k9, k10, k11⟩ := cfg_facts (HX3.out.below hb4); have HX4 := hid (HX3.out.below hb4); clear hb4)) | (go_at_call 32; (with_reducible refine (Region_any cc s 4 _ HU4.out.cfgIn (by decide) (by decide)).mono ?_); rintro e w5 ⟨rfl, hb5⟩; rw [HQ.out.1]; have HB5 := hid (bthen HB4.out hb5); have HU5 := hid (HU4.out.below hb5); obtain ⟨k0', k1', k2', k3', k4', k5', k6', k7', k8', k9', k10', k11'⟩ := cfg_facts (HX4.out.below hb5); clear hb5) | (go_at_call 32; (with_reducible refine (Region_any cc s 9 _ HU5.out.cfgIn (by decide) (by decide)).mono ?_); rintro e w6 ⟨rfl, hb6⟩; rw [HQ.out.2]; have HB6 := hid (bthen HB5.out hb6); clear hb6))
        go_ret
        exact ⟨rfl, HB6.out⟩

end Go.Proofs.YtkeokjfogmpknaaDoor
