/-
  Package check: a lock's fault; a condition's.
-/
import Derived.Test.YtblalejegjieaaaGreatDoorKAmt
import Derived.RegionTactic
import Derived.ChangeAlike
import Derived.Deep.DeepCutAuto
import Derived.Deep.CutBlock
namespace Go.Proofs.YtblalejegjieaaaGreatDoor
open Go.RowKit
set_option linter.unusedVariables false

/-- A config that lies in a block. -/
def CfgBox (w : World) (q : Nat) (c : Cfg) (s : CV) : Prop := w.heap[q]? = some (.cells (c.cs s) 34 (0, 0))
theorem CfgBox.below {w w' : World} {q : Nat} {c : Cfg} {s : CV} (h : CfgBox w q c s) (hb : Below w.heap.size w w') : CfgBox w' q c s := (hb.block q (lt_of_block h)).trans h
theorem CfgBox.new (w : World) (c : Cfg) (s : CV) : CfgBox (w.alloc (.cells (c.cs s) 34)) w.heap.size c s := heap_alloc_new _ _
theorem CfgBox.facts {w : World} {q : Nat} {eng clk str rds wrs rty fuel most : Int} {ls : List Lk} {cs : List Int} {ps : List (List Ins)} {ai : Option Addr} {ni ki : Nat} {al : Option Addr} {nl kl : Nat} {ac : Option Addr} {nc kc : Nat} {ap : Option Addr} {np kp : Nat}
    (h : CfgBox w q ⟨eng, clk, str, rds, wrs, rty, fuel, most, ls, cs, ps⟩ ⟨ai, ni, ki, al, nl, kl, ac, nc, kc, ap, np, kp⟩) :
    w.cell? ⟨q, 0, none⟩ = some (.int .i64 eng) ∧ w.cell? ⟨q, 1, none⟩ = some (.int .i64 clk) ∧ w.cell? ⟨q, 2, none⟩ = some (.int .i64 str) ∧ w.cell? ⟨q, 3, none⟩ = some (.int .i64 rds) ∧ w.cell? ⟨q, 4, none⟩ = some (.int .i64 wrs) ∧ w.cell? ⟨q, 5, none⟩ = some (.int .i64 rty) ∧ w.cell? ⟨q, 6, none⟩ = some (.int .i64 fuel) ∧ w.cell? ⟨q, 7, none⟩ = some (.int .i64 most) ∧ w.cell? ⟨q, 8, none⟩ = some (.slice ai ni ki) ∧ w.cell? ⟨q, 9, none⟩ = some (.slice al nl kl) ∧ w.cell? ⟨q, 10, none⟩ = some (.slice ac nc kc) ∧ w.cell? ⟨q, 11, none⟩ = some (.slice ap np kp) :=
  ⟨cell_of_blk h 0, cell_of_blk h 1, cell_of_blk h 2, cell_of_blk h 3, cell_of_blk h 4, cell_of_blk h 5, cell_of_blk h 6, cell_of_blk h 7, cell_of_blk h 8, cell_of_blk h 9, cell_of_blk h 10, cell_of_blk h 11⟩

/-- All words of a lock are its own. -/
def ownB (ls : List Lk) (i : Nat) (l : Lk) : Bool := (List.range l.len.toNat).all fun j => regionF ls (l.fr + (j : Int)) == (i : Int)
def fineB (s : CV) (l : Lk) : Bool := inB l.kind 1 3 && inB l.fr 0 (s.ni : Int) && inB l.len 0 ((s.ni : Int) - l.fr)
def lockB (c : Cfg) (s : CV) (i : Nat) (l : Lk) : Bool := fineB s l && ownB c.locks i l
def lockF (c : Cfg) (s : CV) (i : Nat) : Flt := if lockB c s i (c.locks.getD i ⟨0, 0, 0⟩) = true then none else some (6, none)

/-- The config, and the lock, as they lie while a lock is looked at. -/
structure LkSt (w : World) (c : Cfg) (s : CV) (l : Lk) (W : World) : Prop where
  box : CfgBox W w.heap.size c s
  lk : W.heap[w.heap.size + 1]? = some (.cells #[.int .i64 l.kind, .int .i64 l.fr, .int .i64 l.len] 50 (0, 0))
  below : Below w.heap.size w W
theorem LkSt.later {w W W' : World} {c : Cfg} {s : CV} {l : Lk} (h : LkSt w c s l W) (hb : Below W.heap.size W W') : LkSt w c s l W' :=
  ⟨h.box.below hb, (hb.block _ (lt_of_block h.lk)).trans h.lk, bthen h.below hb⟩
theorem LkSt.new (w : World) (c : Cfg) (s : CV) (l : Lk) : LkSt w c s l ((w.alloc (.cells (c.cs s) 34)).alloc (.cells #[.int .i64 l.kind, .int .i64 l.fr, .int .i64 l.len] 50)).drew := by
  refine ⟨(CfgBox.new w c s).below (bdrew (bnew (bid _) _)), ?_, bdrew (bnew (bnew (bid w) _) _)⟩
  have := heap_alloc_new (w.alloc (.cells (c.cs s) 34)) (.cells #[.int .i64 l.kind, .int .i64 l.fr, .int .i64 l.len] 50)
  rw [size_alloc1] at this
  exact this

/-- How far the words have been looked at. -/
def OwnAt (ls : List Lk) (i : Nat) (l : Lk) (f0 : Bool) (k : Nat) (fine : Bool) : Prop :=
  (f0 = true → k ≤ l.len.toNat) ∧ ((fine = true ∧ f0 = true ∧ ∀ j, j < k → regionF ls (l.fr + (j : Int)) = (i : Int)) ∨ (fine = false ∧ (f0 && ownB ls i l) = false))
theorem OwnAt.start (ls : List Lk) (i : Nat) (l : Lk) (f0 : Bool) : OwnAt ls i l f0 0 f0 := by
  refine ⟨fun _ => Nat.zero_le _, ?_⟩
  cases f0
  · exact .inr ⟨rfl, rfl⟩
  · exact .inl ⟨rfl, rfl, fun j hj => by omega⟩
theorem OwnAt.step {ls : List Lk} {i : Nat} {l : Lk} {f0 : Bool} {k : Nat} (h : OwnAt ls i l f0 k true) (hk : k < l.len.toNat) : OwnAt ls i l f0 (k + 1) (regionF ls (l.fr + (k : Int)) == (i : Int)) := by
  obtain ⟨h1, h2⟩ := h
  rcases h2 with ⟨_, hf, ha⟩ | ⟨h', _⟩
  · refine ⟨fun _ => hk, ?_⟩
    cases he : (regionF ls (l.fr + (k : Int)) == (i : Int))
    · right
      refine ⟨rfl, ?_⟩
      rw [hf, Bool.true_and]
      unfold ownB
      rw [List.all_eq_false]
      exact ⟨k, List.mem_range.2 hk, by rw [he]; simp⟩
    · left
      refine ⟨rfl, hf, fun j hj => ?_⟩
      by_cases e : j = k
      · subst e; exact eq_of_beq he
      · exact ha j (by omega)
  · cases h'
theorem OwnAt.done {ls : List Lk} {i : Nat} {l : Lk} {f0 : Bool} {k : Nat} (h : OwnAt ls i l f0 k true) (hk : l.len.toNat ≤ k) : (f0 && ownB ls i l) = true := by
  obtain ⟨h1, h2⟩ := h
  rcases h2 with ⟨_, hf, ha⟩ | ⟨h', _⟩
  · rw [hf, Bool.true_and]
    unfold ownB
    rw [List.all_eq_true]
    intro j hj
    rw [ha j (by have := List.mem_range.1 hj; omega)]
    simp
  · cases h'
theorem OwnAt.fell {ls : List Lk} {i : Nat} {l : Lk} {f0 : Bool} {k : Nat} (h : OwnAt ls i l f0 k false) : (f0 && ownB ls i l) = false := by
  obtain ⟨h1, h2⟩ := h
  rcases h2 with ⟨h', _⟩ | ⟨_, h'⟩
  · cases h'
  · exact h'
theorem OwnAt.yes {ls : List Lk} {i : Nat} {l : Lk} {f0 : Bool} {k : Nat} (h : OwnAt ls i l f0 k true) : f0 = true := by
  obtain ⟨h1, h2⟩ := h
  rcases h2 with ⟨_, hf, ha⟩ | ⟨h', _⟩
  · exact hf
  · cases h'

set_option maxRecDepth 100000 in
set_option maxHeartbeats 4000000 in
theorem lock_any {sb : Nat → Addr} (c : Cfg) (s : CV) (i : Nat) (w : World) (hE : Errs sb w) (hc : CfgIn w c s) (hi : i < s.nl) :
    Calls Tryz.prog 21 #[c.v s, .int .i64 (i : Int)] w (ToldRet sb (lockF c s i) w) := by
  have hll : i < c.locks.length := by rw [hc.locks.cnt]; exact hi
  have HF : Hid (lockF c s i = if (fineB s c.locks[i] && ownB c.locks i c.locks[i]) = true then none else some (6, none)) := hid (by unfold lockF lockB; simp [List.getD, hll])
  obtain ⟨b, off, ha, hbl, hcell⟩ := hc.locks.at (by omega)
  have hL := (hcell i c.locks[i] (List.getElem?_eq_getElem hll))
  have hwf := hc.locks.wf c.locks[i] (List.getElem_mem hll)
  have hCF := hc
  obtain ⟨eng, clk, str, rds, wrs, rty, fuel, most, ls, cs, ps⟩ := c
  obtain ⟨ai, ni, ki, al, nl, kl, ac, nc, kc, ap, np, kp⟩ := s
  dsimp only at ha hi hll hL hwf
  subst ha
  have hf := hc.fl
  have hfi := hc.fi
  dsimp only at hf hfi
  have HE := hid hE
  have HR : Hid (∀ (d : Int) (h1 : -9223372036854775808 ≤ d) (h2 : d ≤ 9223372036854775807) (W : World) (hW : Below w.heap.size w W), Calls Tryz.prog 37 #[.agg #[.int .i64 eng, .int .i64 clk, .int .i64 str, .int .i64 rds, .int .i64 wrs, .int .i64 rty, .int .i64 fuel, .int .i64 most, .slice ai ni ki, .slice (some ⟨b, off, none⟩) nl kl, .slice ac nc kc, .slice ap np kp], .int .i64 d] W fun e w' => e = .returned (.int .i64 (regionF ls d)) ∧ Below W.heap.size W w') := hid (fun (d : Int) (h1 : -9223372036854775808 ≤ d) (h2 : d ≤ 9223372036854775807) (W : World) (hW : Below w.heap.size w W) => Region_any _ _ d W (hCF.below hW) h1 h2)
  clear hc hCF hcell hE
  dsimp only at HF HR
  generalize ls[i] = l at hL hwf HF
  obtain ⟨lk, lf, ll⟩ := l
  obtain ⟨f0, f1, l0, l1⟩ := hwf
  obtain ⟨c0, c1, c2⟩ := hL
  dsimp only at f0 f1 l0 l1 c0 c1 c2
  have i0 : (0 : Int) ≤ (i : Int) := by omega
  have i1 : (i : Int) < ((nl : Nat) : Int) := by omega
  have HS := hid (LkSt.new w ⟨eng, clk, str, rds, wrs, rty, fuel, most, ls, cs, ps⟩ ⟨ai, ni, ki, (some ⟨b, off, none⟩), nl, kl, ac, nc, kc, ap, np, kp⟩ ⟨lk, lf, ll⟩)
  show Calls _ _ #[.agg #[.int .i64 eng, .int .i64 clk, .int .i64 str, .int .i64 rds, .int .i64 wrs, .int .i64 rty, .int .i64 fuel, .int .i64 most, .slice ai ni ki, .slice (some ⟨b, off, none⟩) nl kl, .slice ac nc kc, .slice ap np kp], .int .i64 (i : Int)] _ _
  go_enter Tryz.func21, Tryz.ntmps21
  go_wp2
  go_region
  go_upto_region 2 with fail
  refine wp_rename (fun W => LkSt w ⟨eng, clk, str, rds, wrs, rty, fuel, most, ls, cs, ps⟩ ⟨ai, ni, ki, (some ⟨b, off, none⟩), nl, kl, ac, nc, kc, ap, np, kp⟩ ⟨lk, lf, ll⟩ W) HS.out ?_
  intro W hW
  have HW := hid hW
  clear hW HS c0 c1 c2
  have g0 := cell_of_blk HW.out.lk 0
  have g1 := cell_of_blk HW.out.lk 1
  have g2 := cell_of_blk HW.out.lk 2
  simp only [List.getElem?_toArray, List.getElem?_cons_zero, List.getElem?_cons_succ] at g0 g1 g2
  go_cut [7] (fun s7 wx => s7 = .bool (fineB ⟨ai, ni, ki, (some ⟨b, off, none⟩), nl, kl, ac, nc, kc, ap, np, kp⟩ ⟨lk, lf, ll⟩) ∧ wx = W)
  case first =>
    have HFB : Hid (fineB ⟨ai, ni, ki, (some ⟨b, off, none⟩), nl, kl, ac, nc, kc, ap, np, kp⟩ ⟨lk, lf, ll⟩ = (inB lk 1 3 && inB lf 0 (ni : Int) && inB ll 0 ((ni : Int) - lf))) := hid rfl
    cases h1 : inB lk 1 3
    · have HV := hid (show (inB lk 1 3 && inB lf 0 (ni : Int) && inB ll 0 ((ni : Int) - lf)) = false by rw [h1]; rfl)
      go_wp2_with (go_at_call 36; refine (kwithin_any _ _ _ _).mono ?_; rintro e w' ⟨rfl, rfl⟩)
      go_meet
      case rel => exact ⟨by rw [HFB.out, HV.out], rfl⟩
    · cases h2 : inB lf 0 (ni : Int)
      · have HV := hid (show (inB lk 1 3 && inB lf 0 (ni : Int) && inB ll 0 ((ni : Int) - lf)) = false by rw [h1, h2]; rfl)
        go_wp2_with (go_at_call 36; refine (kwithin_any _ _ _ _).mono ?_; rintro e w' ⟨rfl, rfl⟩)
        go_meet
        case rel => exact ⟨by rw [HFB.out, HV.out], rfl⟩
      · have b1 := (inB_iff.1 h2).1
        have b2 := (inB_iff.1 h2).2
        cases h3 : inB ll 0 ((ni : Int) - lf)
        · have HV := hid (show (inB lk 1 3 && inB lf 0 (ni : Int) && inB ll 0 ((ni : Int) - lf)) = false by rw [h1, h2, h3]; rfl)
          go_wp2_with (go_at_call 36; refine (kwithin_any _ _ _ _).mono ?_; rintro e w' ⟨rfl, rfl⟩)
          go_meet
          case rel => exact ⟨by rw [HFB.out, HV.out], rfl⟩
        · have HV := hid (show (inB lk 1 3 && inB lf 0 (ni : Int) && inB ll 0 ((ni : Int) - lf)) = true by rw [h1, h2, h3]; rfl)
          go_wp2_with (go_at_call 36; refine (kwithin_any _ _ _ _).mono ?_; rintro e w' ⟨rfl, rfl⟩)
          go_meet
          case rel => exact ⟨by rw [HFB.out, HV.out], rfl⟩
  obtain ⟨rfl, rfl⟩ := hcut
  have hbd : fineB ⟨ai, ni, ki, (some ⟨b, off, none⟩), nl, kl, ac, nc, kc, ap, np, kp⟩ ⟨lk, lf, ll⟩ = true → 0 ≤ lf ∧ lf ≤ (ni : Int) ∧ 0 ≤ ll ∧ ll ≤ (ni : Int) - lf := by
    intro h
    unfold fineB at h
    simp only [Bool.and_eq_true] at h
    exact ⟨(inB_iff.1 h.1.2).1, (inB_iff.1 h.1.2).2, (inB_iff.1 h.2).1, (inB_iff.1 h.2).2⟩
  generalize fineB ⟨ai, ni, ki, (some ⟨b, off, none⟩), nl, kl, ac, nc, kc, ap, np, kp⟩ ⟨lk, lf, ll⟩ = q0 at hbd HF
  have HBD := hid hbd
  clear hbd
  go_wp2
  go_loopw [7, 8] (fun v7 v8 wr => ∃ (k : Nat) (fine : Bool), v7 = .bool fine ∧ v8 = .int .i64 (lf + (k : Int)) ∧ OwnAt ls i ⟨lk, lf, ll⟩ q0 k fine ∧ LkSt w ⟨eng, clk, str, rds, wrs, rty, fuel, most, ls, cs, ps⟩ ⟨ai, ni, ki, (some ⟨b, off, none⟩), nl, kl, ac, nc, kc, ap, np, kp⟩ ⟨lk, lf, ll⟩ wr) (fun _ v8 _ => (lf + ll - intOf v8).toNat)
  case atStart => exact ⟨0, q0, rfl, by simp, .start _ _ _ _, HW.out⟩
  case round =>
    clear g0 g1 g2
    obtain ⟨k, fine, rfl, rfl, ho, hst⟩ := hrel
    have HO := hid ho
    have HST := hid hst
    clear ho hst
    have g1 := cell_of_blk HST.out.lk 1
    have g2 := cell_of_blk HST.out.lk 2
    simp only [List.getElem?_toArray, List.getElem?_cons_zero, List.getElem?_cons_succ] at g1 g2
    have HSB := hid ((HE.out.below HST.out.below).sents)
    cases fine
    · have HV := hid HO.out.fell
      go_wp2_with (go_at_call 29; refine (New_any HSB.out 6 (by decide) (by decide)).mono ?_; rintro e w9 ⟨rfl, rfl⟩)
      go_ret
      refine ⟨_, rfl, ?_, HST.out.below⟩
      rw [HF.out, HV.out]
      exact ⟨by decide, by decide, rfl⟩
    · have hq := HO.out.yes
      obtain ⟨b1, b2, b3, b4⟩ := HBD.out hq
      clear hq
      by_cases hlt : (k : Int) < ll
      · obtain ⟨d0, d1, d2, d3, d4, d5, d6, d7, d8, d9, d10, d11⟩ := HST.out.box.facts
        have t1 : lf + (k : Int) < lf + ll := by omega
        have t2 : 0 ≤ lf + (k : Int) := by omega
        have t3 : lf + (k : Int) ≤ 1000000 := by omega
        have t4 : 0 ≤ lf + ll := by omega
        have t5 : lf + ll ≤ 1000000 := by omega
        have HK := hid (show k < (Lk.mk lk lf ll).len.toNat by dsimp only; omega)
        go_wp2_with (go_at_call 37; refine (HR.out _ (by omega) (by omega) _ HST.out.below).mono ?_; rintro e w1 ⟨rfl, hb1⟩; have HB1 := hid hb1; clear hb1)
        go_roundw
        case rel => exact ⟨k + 1, _, rfl, by go_num, HO.out.step HK.out, HST.out.later HB1.out⟩
        case measure => simp [intOf]; omega
      · have t1 : ¬ lf + (k : Int) < lf + ll := by omega
        have t2 : 0 ≤ lf + (k : Int) := by omega
        have t4 : 0 ≤ lf + ll := by omega
        have t5 : lf + ll ≤ 1000000 := by omega
        have HV := hid (HO.out.done (show (Lk.mk lk lf ll).len.toNat ≤ k by dsimp only; omega))
        go_wp2
        go_ret
        refine ⟨_, rfl, ?_, HST.out.below⟩
        rw [HF.out, HV.out]
        rfl

end Go.Proofs.YtblalejegjieaaaGreatDoor
