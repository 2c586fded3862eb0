/-
  The document's own answer for a run's locks and conditions. The document's own answer for a run's locks and conditions, walked. The document's own answer for what a run begins with, walked, up to its programs. The document's own answer for what a run begins with, walked.
-/
import Derived.Test.YtblalejegjieaaaGreatDoorKConf
namespace Go.Proofs.YtblalejegjieaaaGreatDoor
open Go.RowKit
set_option linter.unusedVariables false

theorem firstF_at : ∀ (m k : Nat) (t : Int) (f : Nat → Flt) (i : Nat) (x : Nat × Option (Int × Int)), (∀ j, k ≤ j → j < i → f j = none) → k ≤ i → i < k + m → f i = some x → firstF m k t f = placeF (some x) t (i : Int) := by
  intro m
  induction m with
  | zero => intro k t f i x _ h1 h2 _; omega
  | succ m ih =>
    intro k t f i x h0 h1 h2 hx
    by_cases e : k = i
    · subst e
      exact firstF_hit hx
    · rw [firstF_step (h0 k (Nat.le_refl _) (by omega))]
      exact ih (k + 1) t f i x (fun j a b => h0 j (by omega) b) (by omega) (by omega) hx

theorem reg_first : ∀ (ls : List Lk) (k : Nat) (d : Int) (i : Nat) (l : Lk), ls[i]? = some l → hasB l d = true → (∀ j o, j < i → ls[j]? = some o → hasB o d = false) → regF ls k d = ((k + i : Nat) : Int) := by
  intro ls
  induction ls with
  | nil => intro k d i l h; simp at h
  | cons x r ih =>
    intro k d i l h hd hno
    unfold regF
    cases i with
    | zero =>
      simp only [List.getElem?_cons_zero, Option.some.injEq] at h
      subst h
      rw [if_pos hd]
      rfl
    | succ i =>
      simp only [List.getElem?_cons_succ] at h
      have h0 := hno 0 x (by omega) rfl
      rw [if_neg (by rw [h0]; decide)]
      rw [ih (k + 1) d i l h hd fun j o hj ho => hno (j + 1) o (by omega) (by simpa using ho)]
      congr 1
      omega
theorem reg_earlier : ∀ (ls : List Lk) (k : Nat) (d : Int) (j : Nat) (o : Lk), ls[j]? = some o → hasB o d = true → regF ls k d ≤ ((k + j : Nat) : Int) := by
  intro ls
  induction ls with
  | nil => intro k d j o h; simp at h
  | cons x r ih =>
    intro k d j o h hd
    unfold regF
    by_cases hx : hasB x d = true
    · rw [if_pos hx]; omega
    · rw [if_neg hx]
      cases j with
      | zero =>
        simp only [List.getElem?_cons_zero, Option.some.injEq] at h
        subst h
        exact absurd hd hx
      | succ j =>
        simp only [List.getElem?_cons_succ] at h
        have := ih (k + 1) d j o h hd
        omega

/-- Two locks have a word in common. -/
def overB (l o : Lk) : Bool := decide (0 < l.len ∧ 0 < o.len ∧ l.fr < o.fr + o.len ∧ o.fr < l.fr + l.len)
theorem overB_iff {l o : Lk} : overB l o = true ↔ 0 < l.len ∧ 0 < o.len ∧ l.fr < o.fr + o.len ∧ o.fr < l.fr + l.len := decide_eq_true_iff
theorem own_iff {ls : List Lk} {i : Nat} {l : Lk} (hi : ls[i]? = some l) (hl : 0 ≤ l.len) : ownB ls i l = true ↔ ∀ k o, k < i → ls[k]? = some o → overB l o = false := by
  unfold ownB
  simp only [List.all_eq_true, List.mem_range, beq_iff_eq]
  constructor
  · intro h k o hk ho
    cases hv : overB l o with
    | false => rfl
    | true =>
      exfalso
      obtain ⟨a1, a2, a3, a4⟩ := overB_iff.1 hv
      obtain ⟨d, hd1, hd2, hd3, hd4⟩ : ∃ d : Int, l.fr ≤ d ∧ d - l.fr < l.len ∧ o.fr ≤ d ∧ d - o.fr < o.len := by
        by_cases h1 : l.fr ≤ o.fr
        · exact ⟨o.fr, h1, by omega, Int.le_refl _, by omega⟩
        · exact ⟨l.fr, Int.le_refl _, by omega, by omega, by omega⟩
      have hj := h (d - l.fr).toNat (by omega)
      rw [show l.fr + ((d - l.fr).toNat : Int) = d by omega] at hj
      have := reg_earlier ls 0 d k o ho (hasB_iff.2 ⟨a2, hd3, hd4⟩)
      unfold regionF at hj
      omega
  · intro h j hj
    unfold regionF
    rw [reg_first ls 0 (l.fr + (j : Int)) i l hi (hasB_iff.2 ⟨by omega, by omega, by omega⟩) fun k o hk ho => ?_]
    · rw [Nat.zero_add]
    · have := h k o hk ho
      cases hv : hasB o (l.fr + (j : Int)) with
      | false => rfl
      | true =>
        obtain ⟨a1, a2, a3⟩ := hasB_iff.1 hv
        rw [overB_iff.2 ⟨by omega, a1, by omega, by omega⟩] at this
        cases this

theorem fineB_iff {s : CV} {l : Lk} : fineB s l = true ↔ (1 ≤ l.kind ∧ l.kind ≤ 3) ∧ (0 ≤ l.fr ∧ l.fr ≤ (s.ni : Int)) ∧ (0 ≤ l.len ∧ l.len ≤ (s.ni : Int) - l.fr) := by
  unfold fineB inB
  simp only [Bool.and_eq_true, decide_eq_true_eq]
  omega
theorem lockF_none {c : Cfg} {s : CV} {i : Nat} {l : Lk} (hi : c.locks[i]? = some l) : lockF c s i = none ↔ fineB s l = true ∧ ∀ k o, k < i → c.locks[k]? = some o → overB l o = false := by
  have e : c.locks.getD i ⟨0, 0, 0⟩ = l := by simp [List.getD, hi]
  unfold lockF lockB
  rw [e]
  by_cases hf : fineB s l = true
  · rw [hf, Bool.true_and]
    have h0 := (fineB_iff.1 hf).2.2.1
    rw [← own_iff hi h0]
    cases ownB c.locks i l <;> simp
  · simp [hf]
theorem lockF_some {c : Cfg} {s : CV} {i : Nat} (h : lockF c s i ≠ none) : lockF c s i = some (6, none) := by
  unfold lockF at h ⊢
  split
  · rename_i h1
    rw [if_pos h1] at h
    exact absurd rfl h
  · rfl

/-- A fault as the document's own answer tells it: its code, its place. -/
def ansF (f : Flt) : Int × Int := match f with
  | none => (0, -1)
  | some (c, none) => ((c : Int), -1)
  | some (c, some (_, p)) => ((c : Int), p)
def locksAns (c : Cfg) (s : CV) : Flt := orF (firstF s.nl 0 (-1) (lockF c s)) (firstF s.nc 0 (-1) (condF c s))
def AnsRet (a : Int × Int) (w : World) (e : Ending) (w' : World) : Prop := e = .returned (.tuple #[.int .i64 a.1, .int .i64 a.2]) ∧ Below w.heap.size w w'
theorem locks_bad {c : Cfg} {s : CV} {i : Nat} (hi : i < s.nl) (h0 : ∀ j, j < i → lockF c s j = none) (h : lockF c s i ≠ none) : ansF (locksAns c s) = (6, (i : Int)) := by
  unfold locksAns
  rw [firstF_at s.nl 0 (-1) (lockF c s) i (6, none) (fun j _ hj => h0 j hj) (Nat.zero_le _) (by omega) (lockF_some h)]
  rfl
theorem conds_bad {c : Cfg} {s : CV} {i : Nat} {x : Nat} (hl : ∀ j, j < s.nl → lockF c s j = none) (hi : i < s.nc) (h0 : ∀ j, j < i → condF c s j = none) (h : condF c s i = some (x, none)) : ansF (locksAns c s) = ((x : Int), (i : Int)) := by
  unfold locksAns
  rw [firstF_none s.nl 0 (-1) (lockF c s) fun j _ hj => hl j (by omega)]
  show ansF (firstF s.nc 0 (-1) (condF c s)) = _
  rw [firstF_at s.nc 0 (-1) (condF c s) i (x, none) (fun j _ hj => h0 j hj) (Nat.zero_le _) (by omega) h]
  rfl
theorem locks_good {c : Cfg} {s : CV} (hl : ∀ j, j < s.nl → lockF c s j = none) (h0 : ∀ j, j < s.nc → condF c s j = none) : ansF (locksAns c s) = (0, -1) := by
  unfold locksAns
  rw [firstF_none s.nl 0 (-1) (lockF c s) fun j _ hj => hl j (by omega), firstF_none s.nc 0 (-1) (condF c s) fun j _ hj => h0 j (by omega)]
  rfl

end Go.Proofs.YtblalejegjieaaaGreatDoor

namespace Go.Proofs.YtblalejegjieaaaGreatDoor
open Go.RowKit
set_option linter.unusedVariables false

theorem ans_ret {a : Int × Int} {x y : Int} {w w' : World} (h : a = (x, y)) (hb : Below w.heap.size w w') : AnsRet a w (.returned (.tuple #[.int .i64 x, .int .i64 y])) w' := by
  subst h
  exact ⟨rfl, hb⟩

set_option maxRecDepth 100000 in
set_option maxHeartbeats 8000000 in
theorem refLocks_any (c : Cfg) (s : CV) (w : World) (hc : CfgIn w c s) :
    Calls Tryz.prog 31 #[c.v s] w (AnsRet (ansF (locksAns c s)) w) := by
  have hni := hc.fi
  have hnl := hc.fl
  have hnc := hc.fc
  have hcl := hc.locks.cnt
  have hcc := hc.conds.1
  have HC := hid hc
  have HX := hid (CfgBox.new w c s)
  have HLB := hid (fun (i : Nat) (hi : i < s.nl) (h0 : ∀ j, j < i → lockF c s j = none) (h : lockF c s i ≠ none) => locks_bad hi h0 h)
  have HCB := hid (fun (i x : Nat) (hl : ∀ j, j < s.nl → lockF c s j = none) (hi : i < s.nc) (h0 : ∀ j, j < i → condF c s j = none) (h : condF c s i = some (x, none)) => conds_bad hl hi h0 h)
  have HGD := hid (fun (hl : ∀ j, j < s.nl → lockF c s j = none) (h0 : ∀ j, j < s.nc → condF c s j = none) => locks_good hl h0)
  generalize ansF (locksAns c s) = R at HLB HCB HGD
  clear hc
  go_enter Tryz.func31, Tryz.ntmps31
  go_upto_region 1 with fail
  refine wp_rename (fun W => CfgBox W w.heap.size c s ∧ Below w.heap.size w W) ⟨CfgBox.new _ _ _, bnew (bid w) _⟩ ?_
  rintro w1 ⟨hx1, hb1⟩
  have HQL := hid (lt_of_block hx1)
  generalize w.heap.size = q at hx1 HQL ⊢
  have HX1 := hid hx1
  have HB1 := hid hb1
  have HC1 := hid (HC.out.below hb1)
  obtain ⟨k0, k1, k2, k3, k4, k5, k6, k7, k8, k9, k10, k11⟩ := cfg_facts hx1
  clear hx1 hb1 HX HC
  go_wp2_with fail
  clear k0 k1 k2 k3 k4 k5 k6 k7 k8 k9 k10 k11
  go_loopw [5] (fun t5 wr => ∃ i : Nat, i ≤ s.nl ∧ t5 = .int .i64 i ∧ (∀ j, j < i → lockF c s j = none) ∧ Below w1.heap.size w1 wr) (fun t5 _ => s.nl - (intOf t5).toNat)
  case atStart => exact ⟨0, Nat.zero_le _, rfl, fun j h => by omega, bid w1⟩
  case round =>
    obtain ⟨i, hi, rfl, h0, hb⟩ := hrel
    have HB := hid hb
    have H0 := hid h0
    clear hb h0
    obtain ⟨k0, k1, k2, k3, k4, k5, k6, k7, k8, k9, k10, k11⟩ := cfg_facts (HX1.out.below HB.out)
    by_cases hlt : i < s.nl
    · have hll : i < c.locks.length := by rw [hcl]; exact hlt
      obtain ⟨b, off, hae, hbl, hcell⟩ := HC1.out.locks.at (by omega)
      have hil := List.getElem?_eq_getElem hll
      have hL := (hcell i c.locks[i] hil).keep (HB.out.block b hbl)
      have hwf := HC1.out.locks.wf c.locks[i] (List.getElem_mem hll)
      generalize c.locks[i] = l at hil hL hwf
      have HLN := hid (lockF_none (s := s) hil)
      have HLC := hid hcell
      obtain ⟨lk, lf, ll⟩ := l
      obtain ⟨f0, f1, l0, l1⟩ := hwf
      obtain ⟨c0, c1, c2⟩ := hL
      dsimp only at f0 f1 l0 l1 c0 c1 c2
      have i0 : (0 : Int) ≤ (i : Int) := by omega
      have i1 : (i : Int) < ((s.nl : Nat) : Int) := by omega
      rw [hae] at k9
      clear hcell hil
      go_upto_region 6 with fail
      refine wp_rename (fun W => W.heap[wr.heap.size]? = some (.cells #[.int .i64 lk, .int .i64 lf, .int .i64 ll] 50 (0, 0)) ∧ Below w1.heap.size w1 W) ⟨heap_alloc_new _ _, bnew HB.out _⟩ ?_
      rintro W5 ⟨hm5, hb5⟩
      generalize wr.heap.size = q6 at hm5 ⊢
      have HM5 := hid hm5
      have HB5 := hid hb5
      have HMF := hid (fun (W : World) (hW : Below W5.heap.size W5 W) => (show W.cell? ⟨q6, 0, none⟩ = some (.int .i64 lk) ∧ W.cell? ⟨q6, 1, none⟩ = some (.int .i64 lf) ∧ W.cell? ⟨q6, 2, none⟩ = some (.int .i64 ll) from ⟨cell_of_blk ((hW.block _ (lt_of_block HM5.out)).trans HM5.out) 0, cell_of_blk ((hW.block _ (lt_of_block HM5.out)).trans HM5.out) 1, cell_of_blk ((hW.block _ (lt_of_block HM5.out)).trans HM5.out) 2⟩))
      obtain ⟨m0, m1, m2⟩ := HMF.out W5 (bid W5)
      clear hm5 hb5 k0 k1 k2 k3 k4 k5 k6 k7 k8 k9 k10 k11 c0 c1 c2 HB
      have HBAD : Hid (fineB s ⟨lk, lf, ll⟩ = false → R = (6, (i : Int))) := hid (fun hf => HLB.out i hlt H0.out fun h => by rw [(HLN.out.1 h).1] at hf; cases hf)
      have hbad : ¬ ((1 ≤ lk ∧ lk ≤ 3) ∧ (0 ≤ lf ∧ lf ≤ (s.ni : Int)) ∧ (0 ≤ ll ∧ ll ≤ (s.ni : Int) - lf)) → fineB s ⟨lk, lf, ll⟩ = false := fun h => Bool.eq_false_iff.2 fun hf => h (fineB_iff.1 hf)
      by_cases g1 : lk < 1
      · have HA := hid (HBAD.out (hbad (by omega)))
        clear hbad
        go_wp2
        go_ret2
        exact ans_ret HA.out (HB1.out.trans (HB5.out.mono HB1.out.size))
      by_cases g2 : 3 < lk
      · have HA := hid (HBAD.out (hbad (by omega)))
        clear hbad
        go_wp2
        go_ret2
        exact ans_ret HA.out (HB1.out.trans (HB5.out.mono HB1.out.size))
      by_cases g3 : lf < 0
      · have HA := hid (HBAD.out (hbad (by omega)))
        clear hbad
        go_wp2
        go_ret2
        exact ans_ret HA.out (HB1.out.trans (HB5.out.mono HB1.out.size))
      by_cases g4 : ll < 0
      · have HA := hid (HBAD.out (hbad (by omega)))
        clear hbad
        go_wp2
        go_ret2
        exact ans_ret HA.out (HB1.out.trans (HB5.out.mono HB1.out.size))
      by_cases g5 : (s.ni : Int) < lf
      · have HA := hid (HBAD.out (hbad (by omega)))
        clear hbad
        go_wp2
        go_ret2
        exact ans_ret HA.out (HB1.out.trans (HB5.out.mono HB1.out.size))
      by_cases g6 : (s.ni : Int) - lf < ll
      · have HA := hid (HBAD.out (hbad (by omega)))
        clear hbad
        go_wp2
        go_ret2
        exact ans_ret HA.out (HB1.out.trans (HB5.out.mono HB1.out.size))
      have hfine : fineB s ⟨lk, lf, ll⟩ = true := fineB_iff.2 (by dsimp only; omega)
      have HFI := hid hfine
      clear hbad hfine HBAD
      go_wp2_with fail
      go_loopw [7] (fun t7 wr => ∃ k : Nat, k ≤ i ∧ t7 = .int .i64 k ∧ (∀ j o, j < k → c.locks[j]? = some o → overB ⟨lk, lf, ll⟩ o = false) ∧ Below W5.heap.size W5 wr) (fun t7 _ => i - (intOf t7).toNat)
      case atStart => exact ⟨0, Nat.zero_le _, rfl, fun j o h => by omega, bid W5⟩
      case round =>
        clear m0 m1 m2
        obtain ⟨k, hk, rfl, hno, hbq⟩ := hrel
        have HNO := hid hno
        have HBQ := hid hbq
        have HBE := hid (bthen HB5.out hbq)
        clear hno hbq
        by_cases hlk : k < i
        · obtain ⟨k0, k1, k2, k3, k4, k5, k6, k7, k8, k9, k10, k11⟩ := cfg_facts (HX1.out.below HBE.out)
          have hkl : k < c.locks.length := by omega
          have hkk := List.getElem?_eq_getElem hkl
          have hO := (HLC.out k c.locks[k] hkk).keep (HBE.out.block b hbl)
          have hfo := fineB_iff.1 ((lockF_none (s := s) hkk).1 (H0.out k hlk)).1
          generalize c.locks[k] = o at hkk hO hfo
          obtain ⟨ok, of_, ol⟩ := o
          obtain ⟨o0, o1, o2⟩ := hO
          dsimp only at o0 o1 o2 hfo
          obtain ⟨_, ⟨p1, p2⟩, ⟨p3, p4⟩⟩ := hfo
          have j0 : (0 : Int) ≤ (k : Int) := by omega
          have j1 : (k : Int) < ((s.nl : Nat) : Int) := by omega
          have j2 : (k : Int) < (i : Int) := by omega
          rw [hae] at k9
          go_upto_region 12 with fail
          refine wp_rename (fun W => W.heap[wr.heap.size]? = some (.cells #[.int .i64 ok, .int .i64 of_, .int .i64 ol] 50 (0, 0)) ∧ Below W5.heap.size W5 W) ⟨heap_alloc_new _ _, bnew HBQ.out _⟩ ?_
          rintro W7 ⟨hm7, hb7⟩
          generalize wr.heap.size = q8 at hm7 ⊢
          have n0 := cell_of_blk hm7 0
          have n1 := cell_of_blk hm7 1
          have n2 := cell_of_blk hm7 2
          simp only [List.getElem?_toArray, List.getElem?_cons_zero, List.getElem?_cons_succ] at n0 n1 n2
          obtain ⟨m0, m1, m2⟩ := HMF.out W7 hb7
          have HB7 := hid hb7
          have hov : overB ⟨lk, lf, ll⟩ ⟨ok, of_, ol⟩ = true → R = (6, (i : Int)) := fun hv => HLB.out i hlt H0.out fun h => by
            have := (HLN.out.1 h).2 k _ hlk hkk
            rw [hv] at this
            cases this
          have hrn : overB ⟨lk, lf, ll⟩ ⟨ok, of_, ol⟩ = false → (∀ j o, j < k + 1 → c.locks[j]? = some o → overB ⟨lk, lf, ll⟩ o = false) := fun hv j o hj ho => by
            rcases Nat.lt_or_ge j k with h | h
            · exact HNO.out j o h ho
            · obtain rfl : j = k := by omega
              rw [hkk] at ho
              obtain rfl := Option.some.inj ho
              exact hv
          clear hm7 hb7 k0 k1 k2 k3 k4 k5 k6 k7 k8 k9 k10 k11 o0 o1 o2 hkl
          by_cases e1 : 0 < ll
          · by_cases e2 : 0 < ol
            · by_cases e3 : lf < of_ + ol
              · by_cases e4 : of_ < lf + ll
                · have HA := hid (hov (overB_iff.2 ⟨e1, e2, e3, e4⟩))
                  clear hov hrn
                  go_wp2
                  go_ret2
                  exact ans_ret HA.out (HB1.out.trans ((bthen HB5.out HB7.out).mono HB1.out.size))
                · have HNX := hid (hrn (Bool.eq_false_iff.2 fun h => by have := overB_iff.1 h; dsimp only at this; omega))
                  clear hov hrn
                  go_wp2
                  go_roundw
                  case rel => exact ⟨k + 1, by omega, by go_num, HNX.out, HB7.out⟩
                  case measure => simp [intOf]; omega
              · have HNX := hid (hrn (Bool.eq_false_iff.2 fun h => by have := overB_iff.1 h; dsimp only at this; omega))
                clear hov hrn
                go_wp2
                go_roundw
                case rel => exact ⟨k + 1, by omega, by go_num, HNX.out, HB7.out⟩
                case measure => simp [intOf]; omega
            · have HNX := hid (hrn (Bool.eq_false_iff.2 fun h => by have := overB_iff.1 h; dsimp only at this; omega))
              clear hov hrn
              go_wp2
              go_roundw
              case rel => exact ⟨k + 1, by omega, by go_num, HNX.out, HB7.out⟩
              case measure => simp [intOf]; omega
          · have HNX := hid (hrn (Bool.eq_false_iff.2 fun h => by have := overB_iff.1 h; dsimp only at this; omega))
            clear hov hrn
            go_wp2
            go_roundw
            case rel => exact ⟨k + 1, by omega, by go_num, HNX.out, HB7.out⟩
            case measure => simp [intOf]; omega
        · obtain rfl : k = i := by omega
          have HLI := hid (HLN.out.2 ⟨HFI.out, HNO.out⟩)
          go_wp2_with fail
          go_roundw
          case rel =>
            refine ⟨k + 1, by omega, by go_num, fun j hj => ?_, HBE.out⟩
            rcases Nat.lt_or_ge j k with h | h
            · exact H0.out j h
            · obtain rfl : j = k := by omega
              exact HLI.out
          case measure => simp [intOf]; omega
    · obtain rfl : i = s.nl := by omega
      clear hlt hi HLB
      go_wp2_with fail
      clear k0 k1 k2 k3 k4 k5 k6 k7 k8 k9 k10 k11
      go_loopw [9] (fun t9 wr => ∃ k : Nat, k ≤ s.nc ∧ t9 = .int .i64 k ∧ (∀ j, j < k → condF c s j = none) ∧ Below w1.heap.size w1 wr) (fun t9 _ => s.nc - (intOf t9).toNat)
      case atStart => exact ⟨0, Nat.zero_le _, rfl, fun j h => by omega, HB.out⟩
      case round =>
        obtain ⟨k, hk, rfl, hno, hbq⟩ := hrel
        have HNO := hid hno
        have HBQ := hid hbq
        obtain ⟨k0, k1, k2, k3, k4, k5, k6, k7, k8, k9, k10, k11⟩ := cfg_facts (HX1.out.below hbq)
        clear hno hbq
        by_cases hlt : k < s.nc
        · obtain ⟨cb, coff, hce, hcbl, hccell⟩ := HC1.out.conds.at (by omega)
          have hz := (World.cell?_of_block (a := ⟨cb, coff + k, none⟩) (HBQ.out.block cb hcbl)).trans (hccell k hlt)
          have HF : Hid (condF c s k = if inB (c.conds.getD k 0) 0 ((s.nl : Int) - 1) = true then (if (c.locks.getD (c.conds.getD k 0).toNat lk0).len = 0 then some (6, none) else none) else some (9, none)) := hid rfl
          generalize c.conds.getD k 0 = z at hz HF
          have i0 : (0 : Int) ≤ (k : Int) := by omega
          have i1 : (k : Int) < ((s.nc : Nat) : Int) := by omega
          rw [hce] at k10
          clear hccell
          go_upto_region 17 with fail
          by_cases g1 : z < 0
          · have HA := hid (HCB.out k 9 H0.out hlt HNO.out (HF.out.trans (if_neg (by intro h; have := inB_iff.1 h; omega))))
            go_quiet (fail)
            go_wp2
            go_ret2
            exact ans_ret (HA.out.trans rfl) (HB1.out.trans ((bdrewN HBQ.out).mono HB1.out.size))
          by_cases g2 : (s.nl : Int) ≤ z
          · have HA := hid (HCB.out k 9 H0.out hlt HNO.out (HF.out.trans (if_neg (by intro h; have := inB_iff.1 h; omega))))
            go_quiet (fail)
            go_wp2
            go_ret2
            exact ans_ret (HA.out.trans rfl) (HB1.out.trans ((bdrewN HBQ.out).mono HB1.out.size))
          obtain ⟨zn, rfl⟩ : ∃ zn : Nat, z = (zn : Int) := ⟨z.toNat, by omega⟩
          have hznl : zn < s.nl := by omega
          obtain ⟨lb, lo, hle, hlb, hlc⟩ := HC1.out.locks.at (by omega)
          have hzl : zn < c.locks.length := by rw [hcl]; exact hznl
          have hlk := ((hlc zn _ (List.getElem?_eq_getElem hzl)).keep (HBQ.out.block lb hlb)).c2
          have HK : Hid ((c.locks.getD zn lk0).len = c.locks[zn].len) := hid (by simp [List.getD, hzl])
          have HIN := hid (show inB (zn : Int) 0 ((s.nl : Int) - 1) = true from inB_iff.2 ⟨by omega, by omega⟩)
          rw [Int.toNat_natCast] at HF
          generalize c.locks[zn].len = ln at hlk HK
          rw [hle] at k9
          clear hlc hzl
          go_quiet (fail)
          go_upto_region 19 with fail
          refine wp_rename (fun W => Below wr.heap.size wr W) (bdrewN (bid wr)) ?_
          intro W8 hb8
          have HB8 := hid (bthen HBQ.out hb8)
          have hz8 := (hb8.cell (p := ⟨cb, coff + k, none⟩) (World.block_lt_of_cell? wr _ hz)).trans hz
          have hlk8 := (hb8.cell (p := ⟨lb, lo + zn * 3 + 2, none⟩) (World.block_lt_of_cell? wr _ hlk)).trans hlk
          clear k0 k1 k2 k3 k4 k5 k6 k7 k8 k9 k10 k11 hz hlk hb8
          obtain ⟨k0, k1, k2, k3, k4, k5, k6, k7, k8, k9, k10, k11⟩ := cfg_facts (HX1.out.below HB8.out)
          rw [hce] at k10
          rw [hle] at k9
          have z0 : (0 : Int) ≤ (zn : Int) := by omega
          have z1 : (zn : Int) < ((s.nl : Nat) : Int) := by omega
          by_cases h2 : ln = 0
          · have HA := hid (HCB.out k 6 H0.out hlt HNO.out ((HF.out.trans (if_pos HIN.out)).trans (if_pos (by rw [HK.out]; exact h2))))
            subst h2
            go_quiet (fail)
            go_wp2
            go_ret2
            exact ans_ret (HA.out.trans rfl) (HB1.out.trans ((bdrewN HB8.out).mono HB1.out.size))
          · have HA := hid ((HF.out.trans (if_pos HIN.out)).trans (if_neg (by rw [HK.out]; exact h2)))
            go_quiet (fail)
            go_wp2
            go_roundw
            case rel =>
              refine ⟨k + 1, by omega, by go_num, fun j hj => ?_, bdrewN HB8.out⟩
              rcases Nat.lt_or_ge j k with h | h
              · exact HNO.out j h
              · obtain rfl : j = k := by omega
                exact HA.out
            case measure => simp [intOf]; omega
        · obtain rfl : k = s.nc := by omega
          have HA := hid (HGD.out H0.out HNO.out)
          go_wp2
          go_ret2
          exact ans_ret (HA.out.trans rfl) (HB1.out.trans (HBQ.out.mono HB1.out.size))

end Go.Proofs.YtblalejegjieaaaGreatDoor

namespace Go.Proofs.YtblalejegjieaaaGreatDoor
open Go.RowKit
set_option linter.unusedVariables false

/-- A fault as the document's own answer tells it: its code, its thread, its place. -/
def tripF (f : Flt) : Int × Int × Int := match f with
  | none => (0, 0, 0)
  | some (c, none) => ((c : Int), -1, -1)
  | some (c, some (t, p)) => ((c : Int), t, p)
def TripRet (a : Int × Int × Int) (w : World) (e : Ending) (w' : World) : Prop := e = .returned (.tuple #[.int .i64 a.1, .int .i64 a.2.1, .int .i64 a.2.2]) ∧ Below w.heap.size w w'
theorem trip_ret {a : Int × Int × Int} {x y z : Int} {w w' : World} (h : a = (x, y, z)) (hb : Below w.heap.size w w') : TripRet a w (.returned (.tuple #[.int .i64 x, .int .i64 y, .int .i64 z])) w' := by
  subst h
  exact ⟨rfl, hb⟩

theorem firstF_cases : ∀ (m k : Nat) (t : Int) (f : Nat → Flt), firstF m k t f = none ∨ ∃ i x, k ≤ i ∧ i < k + m ∧ f i = some x ∧ firstF m k t f = placeF (some x) t (i : Int) := by
  intro m
  induction m with
  | zero => intro k t f; exact .inl rfl
  | succ m ih =>
    intro k t f
    cases hf : f k with
    | none =>
      rw [firstF_step hf]
      rcases ih (k + 1) t f with h | ⟨i, x, h1, h2, h3, h4⟩
      · exact .inl h
      · exact .inr ⟨i, x, by omega, by omega, h3, h4⟩
    | some x => exact .inr ⟨k, x, Nat.le_refl _, by omega, hf, firstF_hit hf⟩

theorem trip_amounts {c : Cfg} {s : CV} (h : amountsB c s = false) : tripF (configF c s) = (1, -1, -1) := by
  unfold configF
  rw [amounts_no h]
  rfl
/-- A fault of locks or conditions is told with no thread. -/
theorem trip_locks {c : Cfg} {s : CV} (h : amountsB c s = true) (hl : (ansF (locksAns c s)).1 ≠ 0) : tripF (configF c s) = ((ansF (locksAns c s)).1, -1, (ansF (locksAns c s)).2) := by
  unfold configF
  rw [amounts_yes h]
  unfold locksAns at hl ⊢
  have key : ∀ (g : Nat → Flt) (n : Nat), (∀ i, g i = none ∨ ∃ x, g i = some (x, none)) → ∀ k r, (firstF n k (-1) g = none ∧ orF (firstF n k (-1) g) r = r) ∨ ∃ x p, firstF n k (-1) g = some (x, some (-1, p)) := by
    intro g n hg k r
    rcases firstF_cases n k (-1) g with h | ⟨i, x, _, _, h3, h4⟩
    · exact .inl ⟨h, by rw [h]; rfl⟩
    · right
      rcases hg i with h | ⟨y, h⟩
      · rw [h] at h3; cases h3
      · rw [h] at h3
        obtain rfl := Option.some.inj h3
        exact ⟨y, (i : Int), h4⟩
  have h1 : ∀ i, lockF c s i = none ∨ ∃ x, lockF c s i = some (x, none) := fun i => by
    by_cases h : lockF c s i = none
    · exact .inl h
    · exact .inr ⟨6, lockF_some h⟩
  have h2 : ∀ i, condF c s i = none ∨ ∃ x, condF c s i = some (x, none) := fun i => by
    unfold condF
    dsimp only
    split
    · split
      · exact .inr ⟨6, rfl⟩
      · exact .inl rfl
    · exact .inr ⟨9, rfl⟩
  rcases key (lockF c s) s.nl h1 0 (firstF s.nc 0 (-1) (condF c s)) with ⟨e1, _⟩ | ⟨x, p, e1⟩
  · rw [e1] at hl ⊢
    rcases key (condF c s) s.nc h2 0 none with ⟨e2, _⟩ | ⟨x, p, e2⟩
    · rw [e2] at hl
      exact absurd rfl hl
    · rw [e2]
      rfl
  · rw [e1]
    rfl
theorem trip_progs {c : Cfg} {s : CV} (h : amountsB c s = true) (hl : (ansF (locksAns c s)).1 = 0) (hx : ∀ i x p, lockF c s i = some (x, p) → x ≠ 0) (hy : ∀ i x p, condF c s i = some (x, p) → x ≠ 0) : configF c s = placeF (firstF s.np 0 (-1) (progF c s)) (-1) (-1) := by
  unfold configF
  rw [amounts_yes h]
  unfold locksAns at hl
  have e1 : firstF s.nl 0 (-1) (lockF c s) = none := by
    rcases firstF_cases s.nl 0 (-1) (lockF c s) with h | ⟨i, x, _, _, h3, h4⟩
    · exact h
    · exfalso
      obtain ⟨x, p⟩ := x
      have h0 := hx i x p h3
      rw [h4] at hl
      cases p with
      | none => have : ((x : Nat) : Int) = 0 := hl; omega
      | some q => have : ((x : Nat) : Int) = 0 := hl; omega
  rw [e1] at hl ⊢
  have e2 : firstF s.nc 0 (-1) (condF c s) = none := by
    rcases firstF_cases s.nc 0 (-1) (condF c s) with h | ⟨i, x, _, _, h3, h4⟩
    · exact h
    · exfalso
      obtain ⟨x, p⟩ := x
      have h0 := hy i x p h3
      rw [h4] at hl
      cases p with
      | none => have : ((x : Nat) : Int) = 0 := hl; omega
      | some q => have : ((x : Nat) : Int) = 0 := hl; omega
  rw [e2]
  rfl
theorem lock_pos {c : Cfg} {s : CV} (i x : Nat) (p : Option (Int × Int)) (h : lockF c s i = some (x, p)) : x ≠ 0 := by
  rw [lockF_some (by rw [h]; simp)] at h
  cases h
  decide
theorem cond_pos {c : Cfg} {s : CV} (i x : Nat) (p : Option (Int × Int)) (h : condF c s i = some (x, p)) : x ≠ 0 := by
  unfold condF at h
  dsimp only at h
  split at h
  · split at h
    · cases h; decide
    · cases h
  · cases h; decide

end Go.Proofs.YtblalejegjieaaaGreatDoor

namespace Go.Proofs.YtblalejegjieaaaGreatDoor
open Go.RowKit
set_option linter.unusedVariables false

/-- What the document's own answer tells of a program. -/
def ProgAns (f : Flt) (t : Int) (code at_ : Int) : Prop := (f = none ∧ code = 0) ∨ ∃ (x : Nat) (p : Int), f = some (x, some (t, p)) ∧ code = (x : Int) ∧ at_ = p ∧ x ≠ 0
def ProgRet (f : Flt) (t : Int) (w : World) (e : Ending) (w' : World) : Prop := ∃ code at_, e = .returned (.tuple #[.int .i64 code, .int .i64 at_]) ∧ ProgAns f t code at_ ∧ Below w.heap.size w w'

theorem amountsB_iff {c : Cfg} {s : CV} : amountsB c s = true ↔ (1 ≤ c.eng ∧ c.eng ≤ 2) ∧ (1 ≤ c.clk ∧ c.clk ≤ 2) ∧ (1 ≤ c.str ∧ c.str ≤ 16) ∧ (1 ≤ c.rds ∧ c.rds ≤ 32) ∧ (1 ≤ c.wrs ∧ c.wrs ≤ 32) ∧ (0 ≤ c.rty ∧ c.rty ≤ 8) ∧ (0 ≤ c.fuel ∧ c.fuel ≤ 400) ∧ (0 ≤ c.most ∧ c.most ≤ 1099511627776) ∧ ((s.ni : Int) ≤ 32 ∧ (s.nl : Int) ≤ 4 ∧ (s.nc : Int) ≤ 4 ∧ 1 ≤ (s.np : Int) ∧ (s.np : Int) ≤ 4) := by
  have hp : pmayB (c.pm s) = true ↔ ((1 ≤ c.str ∧ c.str ≤ 16) ∧ (s.ni : Int) ≤ 32 ∧ (s.nl : Int) ≤ 4 ∧ (s.nc : Int) ≤ 4 ∧ 1 ≤ (s.np : Int) ∧ (s.np : Int) ≤ 4) := by
    unfold pmayB
    rw [decide_eq_true_iff]
    constructor
    · rintro ⟨s1, s2, l1, l2, t1, t2, c1, c2, d1, d2⟩
      dsimp only [Cfg.pm] at s1 s2 l1 l2 t1 t2 c1 c2 d1 d2
      omega
    · rintro h
      constructor <;> dsimp only [Cfg.pm] <;> omega
  unfold amountsB
  simp only [Bool.and_eq_true, Bool.or_eq_true, beq_iff_eq, decide_eq_true_eq, inB]
  rw [hp]
  omega

theorem trip_prog {c : Cfg} {s : CV} {t x : Nat} {p : Int} (h0 : configF c s = placeF (firstF s.np 0 (-1) (progF c s)) (-1) (-1)) (ht : t < s.np) (hn : ∀ j, j < t → progF c s j = none) (h : progF c s t = some (x, some ((t : Int), p))) : tripF (configF c s) = ((x : Int), (t : Int), p) := by
  rw [h0, firstF_at s.np 0 (-1) (progF c s) t _ (fun j _ hj => hn j hj) (Nat.zero_le _) (by omega) h]
  rfl
theorem trip_none {c : Cfg} {s : CV} (h0 : configF c s = placeF (firstF s.np 0 (-1) (progF c s)) (-1) (-1)) (hn : ∀ j, j < s.np → progF c s j = none) : tripF (configF c s) = (0, 0, 0) := by
  rw [h0, firstF_none s.np 0 (-1) (progF c s) fun j _ hj => hn j (by omega)]
  rfl

set_option maxRecDepth 100000 in
set_option maxHeartbeats 8000000 in
theorem refConfig_any (c : Cfg) (s : CV) (w : World) (hc : CfgIn w c s) (hP : ∀ t : Nat, t < s.np → ∀ W, Below w.heap.size w W → Calls Tryz.prog 32 #[c.v s, .int .i64 (t : Int)] W (ProgRet (progF c s t) (t : Int) W)) :
    Calls Tryz.prog 14 #[c.v s] w (TripRet (tripF (configF c s)) w) := by
  have hni := hc.fi
  have hnl := hc.fl
  have hnc := hc.fc
  have hnp := hc.fp
  have HC := hid hc
  have HPR := hid hP
  have HBAD := hid (fun h => trip_amounts (c := c) (s := s) h)
  have HLK := hid (fun h hl => trip_locks (c := c) (s := s) h hl)
  have HPG := hid (fun h hl => trip_progs (c := c) (s := s) h hl lock_pos cond_pos)
  have HTP := hid (fun (t x : Nat) (p : Int) h0 ht hn h => trip_prog (c := c) (s := s) (t := t) (x := x) (p := p) h0 ht hn h)
  have HTN := hid (fun h0 hn => trip_none (c := c) (s := s) h0 hn)
  generalize tripF (configF c s) = R at HBAD HLK HTP HTN
  have HLC := hid (fun (W : World) (hW : Below w.heap.size w W) => refLocks_any c s W (hc.below hW))
  generalize ansF (locksAns c s) = la at HLK HPG HLC
  obtain ⟨la1, la2⟩ := la
  have hno : ¬ ((1 ≤ c.eng ∧ c.eng ≤ 2) ∧ (1 ≤ c.clk ∧ c.clk ≤ 2) ∧ (1 ≤ c.str ∧ c.str ≤ 16) ∧ (1 ≤ c.rds ∧ c.rds ≤ 32) ∧ (1 ≤ c.wrs ∧ c.wrs ≤ 32) ∧ (0 ≤ c.rty ∧ c.rty ≤ 8) ∧ (0 ≤ c.fuel ∧ c.fuel ≤ 400) ∧ (0 ≤ c.most ∧ c.most ≤ 1099511627776) ∧ ((s.ni : Int) ≤ 32 ∧ (s.nl : Int) ≤ 4 ∧ (s.nc : Int) ≤ 4 ∧ 1 ≤ (s.np : Int) ∧ (s.np : Int) ≤ 4)) → R = (1, -1, -1) := fun h => HBAD.out (Bool.eq_false_iff.2 fun hf => h (amountsB_iff.1 hf))
  clear hc hP HBAD
  go_enter Tryz.func14, Tryz.ntmps14
  have hq := cfg_facts (CfgBox.new w c s)
  have HX := hid (CfgBox.new w c s)
  obtain ⟨k0, k1, k2, k3, k4, k5, k6, k7, k8, k9, k10, k11⟩ := hq
  by_cases g0 : c.eng < 1
  · have HA := hid (hno (by omega))
    clear hno
    go_wp2
    exact bodyPost_ret (v := .tuple #[.int .i64 1, .int .i64 (-1), .int .i64 (-1)]) (by simp [results, Tryz.results14, go_sem]) rfl (trip_ret HA.out (bnew (bid w) _))
  by_cases g1 : 2 < c.eng
  · have HA := hid (hno (by omega))
    clear hno
    go_wp2
    exact bodyPost_ret (v := .tuple #[.int .i64 1, .int .i64 (-1), .int .i64 (-1)]) (by simp [results, Tryz.results14, go_sem]) rfl (trip_ret HA.out (bnew (bid w) _))
  by_cases g2 : c.clk < 1
  · have HA := hid (hno (by omega))
    clear hno
    go_wp2
    exact bodyPost_ret (v := .tuple #[.int .i64 1, .int .i64 (-1), .int .i64 (-1)]) (by simp [results, Tryz.results14, go_sem]) rfl (trip_ret HA.out (bnew (bid w) _))
  by_cases g3 : 2 < c.clk
  · have HA := hid (hno (by omega))
    clear hno
    go_wp2
    exact bodyPost_ret (v := .tuple #[.int .i64 1, .int .i64 (-1), .int .i64 (-1)]) (by simp [results, Tryz.results14, go_sem]) rfl (trip_ret HA.out (bnew (bid w) _))
  by_cases g4 : c.str < 1
  · have HA := hid (hno (by omega))
    clear hno
    go_wp2
    exact bodyPost_ret (v := .tuple #[.int .i64 1, .int .i64 (-1), .int .i64 (-1)]) (by simp [results, Tryz.results14, go_sem]) rfl (trip_ret HA.out (bnew (bid w) _))
  by_cases g5 : 16 < c.str
  · have HA := hid (hno (by omega))
    clear hno
    go_wp2
    exact bodyPost_ret (v := .tuple #[.int .i64 1, .int .i64 (-1), .int .i64 (-1)]) (by simp [results, Tryz.results14, go_sem]) rfl (trip_ret HA.out (bnew (bid w) _))
  by_cases g6 : c.rds < 1
  · have HA := hid (hno (by omega))
    clear hno
    go_wp2
    exact bodyPost_ret (v := .tuple #[.int .i64 1, .int .i64 (-1), .int .i64 (-1)]) (by simp [results, Tryz.results14, go_sem]) rfl (trip_ret HA.out (bnew (bid w) _))
  by_cases g7 : 32 < c.rds
  · have HA := hid (hno (by omega))
    clear hno
    go_wp2
    exact bodyPost_ret (v := .tuple #[.int .i64 1, .int .i64 (-1), .int .i64 (-1)]) (by simp [results, Tryz.results14, go_sem]) rfl (trip_ret HA.out (bnew (bid w) _))
  by_cases g8 : c.wrs < 1
  · have HA := hid (hno (by omega))
    clear hno
    go_wp2
    exact bodyPost_ret (v := .tuple #[.int .i64 1, .int .i64 (-1), .int .i64 (-1)]) (by simp [results, Tryz.results14, go_sem]) rfl (trip_ret HA.out (bnew (bid w) _))
  by_cases g9 : 32 < c.wrs
  · have HA := hid (hno (by omega))
    clear hno
    go_wp2
    exact bodyPost_ret (v := .tuple #[.int .i64 1, .int .i64 (-1), .int .i64 (-1)]) (by simp [results, Tryz.results14, go_sem]) rfl (trip_ret HA.out (bnew (bid w) _))
  by_cases g10 : c.rty < 0
  · have HA := hid (hno (by omega))
    clear hno
    go_wp2
    exact bodyPost_ret (v := .tuple #[.int .i64 1, .int .i64 (-1), .int .i64 (-1)]) (by simp [results, Tryz.results14, go_sem]) rfl (trip_ret HA.out (bnew (bid w) _))
  by_cases g11 : 8 < c.rty
  · have HA := hid (hno (by omega))
    clear hno
    go_wp2
    exact bodyPost_ret (v := .tuple #[.int .i64 1, .int .i64 (-1), .int .i64 (-1)]) (by simp [results, Tryz.results14, go_sem]) rfl (trip_ret HA.out (bnew (bid w) _))
  by_cases g12 : c.fuel < 0
  · have HA := hid (hno (by omega))
    clear hno
    go_wp2
    exact bodyPost_ret (v := .tuple #[.int .i64 1, .int .i64 (-1), .int .i64 (-1)]) (by simp [results, Tryz.results14, go_sem]) rfl (trip_ret HA.out (bnew (bid w) _))
  by_cases g13 : 400 < c.fuel
  · have HA := hid (hno (by omega))
    clear hno
    go_wp2
    exact bodyPost_ret (v := .tuple #[.int .i64 1, .int .i64 (-1), .int .i64 (-1)]) (by simp [results, Tryz.results14, go_sem]) rfl (trip_ret HA.out (bnew (bid w) _))
  by_cases g14 : c.most < 0
  · have HA := hid (hno (by omega))
    clear hno
    go_wp2
    exact bodyPost_ret (v := .tuple #[.int .i64 1, .int .i64 (-1), .int .i64 (-1)]) (by simp [results, Tryz.results14, go_sem]) rfl (trip_ret HA.out (bnew (bid w) _))
  by_cases g15 : 1099511627776 < c.most
  · have HA := hid (hno (by omega))
    clear hno
    go_wp2
    exact bodyPost_ret (v := .tuple #[.int .i64 1, .int .i64 (-1), .int .i64 (-1)]) (by simp [results, Tryz.results14, go_sem]) rfl (trip_ret HA.out (bnew (bid w) _))
  by_cases g16 : 32 < (s.ni : Int)
  · have HA := hid (hno (by omega))
    clear hno
    go_wp2
    exact bodyPost_ret (v := .tuple #[.int .i64 1, .int .i64 (-1), .int .i64 (-1)]) (by simp [results, Tryz.results14, go_sem]) rfl (trip_ret HA.out (bnew (bid w) _))
  by_cases g17 : 4 < (s.nl : Int)
  · have HA := hid (hno (by omega))
    clear hno
    go_wp2
    exact bodyPost_ret (v := .tuple #[.int .i64 1, .int .i64 (-1), .int .i64 (-1)]) (by simp [results, Tryz.results14, go_sem]) rfl (trip_ret HA.out (bnew (bid w) _))
  by_cases g18 : 4 < (s.nc : Int)
  · have HA := hid (hno (by omega))
    clear hno
    go_wp2
    exact bodyPost_ret (v := .tuple #[.int .i64 1, .int .i64 (-1), .int .i64 (-1)]) (by simp [results, Tryz.results14, go_sem]) rfl (trip_ret HA.out (bnew (bid w) _))
  by_cases g19 : (s.np : Int) < 1
  · have HA := hid (hno (by omega))
    clear hno
    go_wp2
    exact bodyPost_ret (v := .tuple #[.int .i64 1, .int .i64 (-1), .int .i64 (-1)]) (by simp [results, Tryz.results14, go_sem]) rfl (trip_ret HA.out (bnew (bid w) _))
  by_cases g20 : 4 < (s.np : Int)
  · have HA := hid (hno (by omega))
    clear hno
    go_wp2
    exact bodyPost_ret (v := .tuple #[.int .i64 1, .int .i64 (-1), .int .i64 (-1)]) (by simp [results, Tryz.results14, go_sem]) rfl (trip_ret HA.out (bnew (bid w) _))
  have HAM := hid (show amountsB c s = true from amountsB_iff.2 (by omega))
  clear hno
  have hl1 := HLC.out _ (bnew (bid w) (.cells (c.cs s) 34))
  have HL1 := hid hl1
  clear hl1 HLC
  go_upto_region 6 with (go_at_call 31; (with_reducible refine HL1.out.mono ?_); rintro e w2 ⟨rfl, hb2⟩; have HB2 := hid (bthen (bnew (bid w) (.cells (c.cs s) 34)) hb2); have HX2 := hid (HX.out.below hb2); clear hb2)
  clear k0 k1 k2 k3 k4 k5 k6 k7 k8 k9 k10 k11 HX HL1
  by_cases hz : la1 = 0
  · subst hz
    have HCF := hid (HPG.out HAM.out rfl)
    have HTQ := hid (fun (t x : Nat) (p : Int) ht hn h => HTP.out t x p HCF.out ht hn h)
    have HTM := hid (fun hn => HTN.out HCF.out hn)
    clear HPG HLK HTP HTN HCF
    go_wp2_with fail
    go_loopw [7] (fun t7 wr => ∃ t : Nat, t ≤ s.np ∧ t7 = .int .i64 t ∧ (∀ j, j < t → progF c s j = none) ∧ Below w2.heap.size w2 wr) (fun t7 _ => s.np - (intOf t7).toNat)
    case atStart => exact ⟨0, Nat.zero_le _, rfl, fun j h => by omega, bid w2⟩
    case round =>
      obtain ⟨t, ht, rfl, h0, hb⟩ := hrel
      have H0 := hid h0
      have HB3 := hid (bthen HB2.out hb)
      obtain ⟨k0, k1, k2, k3, k4, k5, k6, k7, k8, k9, k10, k11⟩ := cfg_facts (HX2.out.below hb)
      have HBR := hid hb
      clear h0 hb
      by_cases hlt : t < s.np
      · have i1 : (t : Int) < ((s.np : Nat) : Int) := by omega
        have HPT := hid (HPR.out t hlt wr HB3.out)
        go_upto_region 12 with (go_at_call 32; (with_reducible refine HPT.out.mono ?_); rintro e w4 ⟨code, at_, rfl, hpa, hb4⟩; have HPA := hid hpa; have HB4 := hid hb4; clear hpa hb4)
        rcases HPA.out with ⟨hn, rfl⟩ | ⟨x, p, hs, rfl, rfl, hx⟩
        · have HN := hid hn
          clear hn HPA
          go_wp2
          go_roundw
          case rel =>
            refine ⟨t + 1, by omega, by go_num, fun j hj => ?_, bthen HBR.out HB4.out⟩
            rcases Nat.lt_or_ge j t with h | h
            · exact H0.out j h
            · obtain rfl : j = t := by omega
              exact HN.out
          case measure => simp [intOf]; omega
        · have HA := hid (HTQ.out _ _ _ hlt H0.out hs)
          have hx1 : ¬ (x : Int) = 0 := by omega
          clear hs HPA
          go_wp2
          exact bodyPost_ret (v := .tuple #[.int .i64 (x : Int), .int .i64 (t : Int), .int .i64 at_]) (by simp [results, Tryz.results14, go_sem]) rfl (trip_ret HA.out (bthen HB3.out HB4.out))
      · obtain rfl : t = s.np := by omega
        have HA := hid (HTM.out H0.out)
        go_wp2
        exact bodyPost_ret (v := .tuple #[.int .i64 0, .int .i64 0, .int .i64 0]) (by simp [results, Tryz.results14, go_sem]) rfl (trip_ret HA.out HB3.out)
  · have HA := hid (HLK.out HAM.out hz)
    clear HPG HLK HTP HTN
    go_wp2
    exact bodyPost_ret (v := .tuple #[.int .i64 la1, .int .i64 (-1), .int .i64 la2]) (by simp [results, Tryz.results14, go_sem]) rfl (trip_ret HA.out HB2.out)

end Go.Proofs.YtblalejegjieaaaGreatDoor
