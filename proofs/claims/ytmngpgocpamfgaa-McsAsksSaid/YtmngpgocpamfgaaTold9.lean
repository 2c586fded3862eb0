/-
  The document's example of the lock that is a queue.
-/
import Derived.Test.YtmngpgocpamfgaaMcsT
import Derived.Test.YtmngpgocpamfgaaMcsD
namespace Go.Proofs.Ytmngpgocpamfgaa
open Go.RowKit
attribute [local go_sem] Later.cell Later.frozen

theorem len_mcTake (m : PM) (s : MS) (h : HD) : (mcTake m s h).2.zs.length = s.zs.length := by
  unfold mcTake mcQueue
  repeat' split
  all_goals first | rfl | exact len_stored _ _ _ | exact len_loaded _ _ | exact len_swapped _ _ _ _
theorem len_mcDrop (m : PM) (s : MS) (h : HD) : (mcDrop m s h).2.zs.length = s.zs.length := by
  unfold mcDrop
  repeat' split
  all_goals first | rfl | exact len_stored _ _ _ | exact len_loaded _ _ | exact len_swapped _ _ _ _
theorem HandRet.mk {T E : TypeId} {h' : HD} {s' : MS} {B b : Nat} {vw : Value} {w : World} {e : Ending} {w' : World} (h : e = .returned h'.v) (hm : IsMem T E w' B b vw s') (hw : Wrote (MemS b vw) w w') : HandRet T E h' s' B b vw w e w' := ⟨h, hm, hw⟩

def tk9 : Nat → HD × MS
  | 0 => (⟨1, 1, 0, false, 0⟩, MS.new (zrow 48))
  | k + 1 => mcTake mp4 (tk9 k).2 (tk9 k).1
def td1 : HD × MS := mcDrop mp4 (tk9 4).2 (tk9 4).1
def td2 : HD × MS := mcDrop mp4 td1.2 td1.1
theorem tk9_eq : (tk9 4).1 = ⟨1, 1, 9, false, 0⟩ := sameH_iff.1 (by decide +kernel)
theorem td2_eq : td2.1 = ⟨1, 1, 0, false, 0⟩ := sameH_iff.1 (by decide +kernel)
theorem td2_steps : td2.2.steps = 6 := by decide +kernel
theorem tk9_len (k : Nat) : (tk9 k).2.zs.length = 48 := by
  induction k with
  | zero => exact zrow_len 48
  | succ k ih => show (mcTake _ _ _).2.zs.length = 48; rw [len_mcTake, ih]
theorem td1_len : td1.2.zs.length = 48 := by unfold td1; rw [len_mcDrop, tk9_len]
theorem id9 : idF mp4 1 1 = 4 := by decide

/-- A map, a memory, a hand. -/
structure T9 (w : World) (q b : Nat) (vw : Value) (q4 : Nat) (s : MS) (h : HD) (W : World) : Prop where
  mm : MapMem w q b vw s W
  hand : HandAt W q4 h
  far : ¬ MemS b vw q4
  ne : q4 ≠ q
  old : w.heap.size ≤ q4
section
variable {w : World} {q b : Nat} {vw : Value} {q4 : Nat} {s s' : MS} {h : HD} {W W' : World}
theorem T9.later (k : T9 w q b vw q4 s h W) (hb : Below W.heap.size W W') : T9 w q b vw q4 s h W' := ⟨k.mm.later hb, k.hand.below hb, k.far, k.ne, k.old⟩
theorem T9.next (k : T9 w q b vw q4 s h W) (hm : Mem W' w.heap.size b vw s') (hw : Wrote (MemS b vw) W W') : T9 w q b vw q4 s' h W' := ⟨k.mm.next hm hw, k.hand.kept hw k.far, k.far, k.ne, k.old⟩
theorem T9.set (k : T9 w q b vw q4 s h W) (g : HD) : T9 w q b vw q4 s g (((((W.setCell ⟨q4, 0, none⟩ (.int .i64 g.t)).setCell ⟨q4, 1, none⟩ (.int .i64 g.l)).setCell ⟨q4, 2, none⟩ (.int .i64 g.s)).setCell ⟨q4, 3, none⟩ (.bool g.rd)).setCell ⟨q4, 4, none⟩ (.int .i64 g.x)) := by
  have hw := (Wrote.refl (fun j => j = q4) W).set5 (q := q4) (fun _ => rfl) (.int .i64 g.t) (.int .i64 g.l) (.int .i64 g.s) (.bool g.rd) (.int .i64 g.x)
  exact ⟨⟨(hw.block q k.mm.map.lt (fun e => k.ne e.symm)).trans k.mm.map, k.mm.mem.kept hw fun j hj e => k.far (e ▸ hj), k.mm.qm, k.mm.q0, k.mm.below.trans (hw.below k.mm.below.size fun j hj e => by have := k.old; omega)⟩, k.hand.set5 g, k.far, k.ne, k.old⟩
/-- Another hand is written. -/
theorem T9.away (k : T9 w q b vw q4 s h W) {q5 : Nat} {g0 : HD} (hg : HandAt W q5 g0) (h5 : ¬ MemS b vw q5) (n1 : q5 ≠ q) (n2 : q5 ≠ q4) (n3 : w.heap.size ≤ q5) (g : HD) :
    T9 w q b vw q4 s h (((((W.setCell ⟨q5, 0, none⟩ (.int .i64 g.t)).setCell ⟨q5, 1, none⟩ (.int .i64 g.l)).setCell ⟨q5, 2, none⟩ (.int .i64 g.s)).setCell ⟨q5, 3, none⟩ (.bool g.rd)).setCell ⟨q5, 4, none⟩ (.int .i64 g.x)) ∧
    HandAt (((((W.setCell ⟨q5, 0, none⟩ (.int .i64 g.t)).setCell ⟨q5, 1, none⟩ (.int .i64 g.l)).setCell ⟨q5, 2, none⟩ (.int .i64 g.s)).setCell ⟨q5, 3, none⟩ (.bool g.rd)).setCell ⟨q5, 4, none⟩ (.int .i64 g.x)) q5 g := by
  have hw := (Wrote.refl (fun j => j = q5) W).set5 (q := q5) (fun _ => rfl) (.int .i64 g.t) (.int .i64 g.l) (.int .i64 g.s) (.bool g.rd) (.int .i64 g.x)
  exact ⟨⟨⟨(hw.block q k.mm.map.lt (fun e => n1 e.symm)).trans k.mm.map, k.mm.mem.kept hw fun j hj e => h5 (e ▸ hj), k.mm.qm, k.mm.q0, k.mm.below.trans (hw.below k.mm.below.size fun j hj e => by omega)⟩, k.hand.kept hw (fun e => n2 e.symm), k.far, k.ne, k.old⟩, hg.set5 g⟩
def T9S (q q4 : Nat) (h : HD) (W : World) : Prop :=
  W.cell? ⟨q, 0, none⟩ = some (.int .i64 2) ∧ W.cell? ⟨q, 1, none⟩ = some (.int .i64 2) ∧ W.cell? ⟨q, 2, none⟩ = some (.int .i64 4) ∧ W.cell? ⟨q, 3, none⟩ = some (.int .i64 0) ∧ W.cell? ⟨q, 4, none⟩ = some (.int .i64 2) ∧
  W.cell? ⟨q4, 0, none⟩ = some (.int .i64 h.t) ∧ W.cell? ⟨q4, 1, none⟩ = some (.int .i64 h.l) ∧ W.cell? ⟨q4, 2, none⟩ = some (.int .i64 h.s) ∧ W.cell? ⟨q4, 3, none⟩ = some (.bool h.rd) ∧ W.cell? ⟨q4, 4, none⟩ = some (.int .i64 h.x)
theorem T9.cells (k : T9 w q b vw q4 s h W) : T9S q q4 h W := by
  obtain ⟨m0, m1, m2, m3, m4, _⟩ := k.mm.map.facts
  obtain ⟨d0, d1, d2, d3, d4, _⟩ := k.hand.facts
  exact ⟨m0, m1, m2, m3, m4, d0, d1, d2, d3, d4⟩
/-- A new block is nobody's. -/
theorem T9.fresh (k : T9 w q b vw q4 s h W) : ¬ MemS b vw W.heap.size ∧ W.heap.size ≠ q ∧ W.heap.size ≠ q4 ∧ w.heap.size ≤ W.heap.size :=
  ⟨fun e => absurd (k.mm.mem.hold _ e) (Nat.lt_irrefl _), fun e => by have := k.mm.map.lt; omega, fun e => by have := k.hand.lt; omega, k.mm.below.size⟩
end

/-- What the region of the two drops comes to. -/
def T9D (w : World) (q b : Nat) (vw : Value) (q4 : Nat) (v : Value) (W : World) : Prop :=
  ∃ q5, v = .pointer (some ⟨q5, 0, none⟩) ∧ T9 w q b vw q4 td2.2 ⟨1, 1, 9, false, 0⟩ W ∧ HandAt W q5 ⟨1, 1, 0, false, 0⟩

set_option maxRecDepth 100000 in
set_option maxHeartbeats 8000000 in
theorem told9_any (w : World) : Calls Try.prog 8 #[] w fun e w' => e = .returned (.bool true) ∧ Below w.heap.size w w' := by
  have HBO := hid (fun (x : World) => (show Calls Try.prog 27 #[mp4.v] x (MadeBoth 48 x) from by have := Both_any mp4 x mp4_ok; rwa [mp4_size] at this))
  go_enter Try.func8, Try.ntmps8
  go_upto_region 2 with (go_at_call 9; (with_reducible refine (Map_any _).mono ?_); rintro e w1 ⟨rfl, hb1⟩; have HB1 := hid hb1; clear hb1)
  refine wp_rename (fun W => MapAt 27 W w1.heap.size mp4 ∧ Below w.heap.size w W) ⟨MapAt.new _ w1 mp4, bnew HB1.out _⟩ ?_
  have hq0 := HB1.out.size
  generalize w1.heap.size = q at hq0 ⊢
  clear HB1
  rintro W ⟨hk, hb⟩
  have HK := hid hk
  have HB := hid hb
  obtain ⟨m0, m1, m2, m3, m4, _⟩ := hk.facts
  clear hk hb
  go_upto_region 6 with (go_at_call 27; (with_reducible refine (HBO.out _).mono ?_); rintro e w2 ⟨b, vw, c, vr, rfl, hp, hb2⟩; have HP := hid hp; have HB2 := hid hb2; clear hp hb2)
  have HW := hid (show T9 w q b vw w2.heap.size (tk9 0).2 (tk9 0).1 (w2.alloc (.cells (tk9 0).1.cells 24)) from by
    have hq3 := HB.out.size
    have hq1 := HK.out.lt
    have hq2 := HB2.out.size
    refine ⟨⟨(HK.out.below HB2.out).alloc _, (HP.out.mem.mono hq3).kept (Wrote.of_below (bnew (bid w2) _) (fun _ => False)) (fun _ _ h => h), HP.out.mem.old q hq1, hq0, bnew (bthen HB.out HB2.out) _⟩, HandAt.new _ _, fun e => ?_, by omega, by omega⟩
    exact absurd (HP.out.mem.hold _ e) (Nat.lt_irrefl _))
  refine wp_rename _ HW.out ?_
  generalize w2.heap.size = q4
  clear HW HP HB2 HK HB m0 m1 m2 m3 m4 HBO hq0
  intro W3 hk
  have HK := hid hk
  clear hk
  go_wp2_with fail
  go_loopw [5] (fun i W => ∃ k : Nat, k ≤ 4 ∧ i = .int .i64 k ∧ T9 w q b vw q4 (tk9 k).2 (tk9 k).1 W) (fun i _ => 4 - (intOf i).toNat)
  case atStart => exact ⟨0, by omega, rfl, HK.out⟩
  case round =>
    clear HK
    obtain ⟨k, hk, rfl, hT⟩ := hrel
    have HK := hid hT
    clear hT
    by_cases hlt : k < 4
    · have i1 : (0 : Int) ≤ (k : Int) := by omega
      have i2 : (k : Int) < 4 := by omega
      have HTK := hid (fun (x : World) (hm : Mem x w.heap.size b vw (tk9 k).2) => mTake_any mp4 (tk9 k).1 x _ b vw _ hm (by rw [mp4_size, tk9_len]; decide))
      have HNX := hid (show mcTake mp4 (tk9 k).2 (tk9 k).1 = tk9 (k + 1) from rfl)
      simp only [HNX.out] at HTK
      generalize hg : (tk9 k).1 = g at *
      generalize hs : (tk9 k).2 = s at *
      generalize hg2 : tk9 (k + 1) = r2 at *
      have HG2 := hid hg2
      clear hg hs hg2 HNX
      obtain ⟨gt, gl, gs, gr, gx⟩ := g
      obtain ⟨m0, m1, m2, m3, m4, _⟩ := HK.out.mm.map.facts
      obtain ⟨d0, d1, d2, d3, d4, df⟩ := HK.out.hand.facts
      go_upto_region 8 with (go_at_call 19; (with_reducible refine (HTK.out _ HK.out.mm.mem).mono ?_); rintro e w5 ⟨rfl, hm5, hw5⟩; have HK5 := hid (HK.out.next hm5 hw5); obtain ⟨e0, e1, e2, e3, e4, ef⟩ := HK5.out.hand.facts; clear hm5 hw5)
      refine wp_rename (fun W => T9 w q b vw q4 r2.2 r2.1 W) (HK5.out.set r2.1) ?_
      clear HK5 HK HTK m0 m1 m2 m3 m4 d0 d1 d2 d3 d4 df e0 e1 e2 e3 e4 ef
      intro W6 hk6
      have HK := hid hk6
      clear hk6
      go_wp2_with fail
      go_roundw
      case rel => exact ⟨k + 1, by omega, by go_num, by rw [HG2.out]; exact HK.out⟩
      case measure => simp [intOf]; omega
    · obtain rfl : k = 4 := by omega
      have HK' := HK.out
      rw [tk9_eq] at HK'
      have HK2 := hid HK'
      clear HK HK'
      go_upto_region 10 with fail
      have HD1 := hid (fun (x : World) (hm : Mem x w.heap.size b vw (tk9 4).2) => (show Calls Try.prog 17 #[mp4.v, .pointer (some ⟨b, 0, none⟩), (HD.mk 1 1 9 false 0).v] x (HandRet 76 2 td1.1 td1.2 w.heap.size b vw x) from by
        have := mDrop_any mp4 (tk9 4).1 x _ b vw _ hm (by rw [mp4_size, tk9_len]; decide)
        rw [tk9_eq] at this
        unfold td1
        rw [tk9_eq]
        exact this))
      have HD2 := hid (fun (x : World) (hm : Mem x w.heap.size b vw td1.2) => (show Calls Try.prog 17 #[mp4.v, .pointer (some ⟨b, 0, none⟩), td1.1.v] x (HandRet 76 2 ⟨1, 1, 0, false, 0⟩ td2.2 w.heap.size b vw x) from by
        rw [← td2_eq]
        exact mDrop_any mp4 td1.1 x _ b vw _ hm (by rw [mp4_size, td1_len]; decide)))
      have HST := hid (show td2.2.steps = 6 from td2_steps)
      have HT2 := hid (fun W v q5 (h1 : v = .pointer (some ⟨q5, 0, none⟩)) h2 h3 => (show T9D w q b vw q4 v W from ⟨q5, h1, h2, h3⟩))
      generalize td1.1 = g1 at *
      generalize td1.2 = s1 at *
      generalize (tk9 4).2 = s0 at *
      obtain ⟨gt, gl, gs, gr, gx⟩ := g1
      go_cut [6] (fun v W => T9D w q b vw q4 v W)
      case first =>
        have hc : ∀ (W' : World) {s : MS}, T9 w q b vw q4 s ⟨1, 1, 9, false, 0⟩ W' → T9S q q4 ⟨1, 1, 9, false, 0⟩ W' := fun _ {_} k => T9.cells k
        have HKD := hid (HK2.out.later (bdrew (bid _)))
        refine wp_region_noPanic ?_
        refine wp_region_held_drew (S := T9S q q4 ⟨1, 1, 9, false, 0⟩) (by kernel_rfl) (hc _ HKD.out) (fun hHeld => ?_)
        refine wpAnyH_take (i := 0) (v := ?_) rfl (by kernel_rfl) (by kernel_rfl) (by kernel_rfl) (fun _ _ _ h => h) (Or.inl ⟨by rfl, ?_⟩) (by assumption) ?_
        rotate_left
        · (intro w' hSw; obtain ⟨m0, m1, m2, m3, m4, d0, d1, d2, d3, d4⟩ := hSw; go_simp; try (with_reducible rfl))
        (try simp only [Act.put, List.getElem_toArray, List.getElem_cons_zero, List.getElem_cons_succ, List.setIfInBounds_toArray, List.set_cons_zero, List.set_cons_succ])

        refine wpAnyH_take (i := 1) (v := ?_) rfl (by kernel_rfl) (by kernel_rfl) (by kernel_rfl) (fun _ _ _ h => h) (Or.inl ⟨by rfl, ?_⟩) (by assumption) ?_
        rotate_left
        · (intro w' hSw; obtain ⟨m0, m1, m2, m3, m4, d0, d1, d2, d3, d4⟩ := hSw; go_simp; try (with_reducible rfl))
        (try simp only [Act.put, List.getElem_toArray, List.getElem_cons_zero, List.getElem_cons_succ, List.setIfInBounds_toArray, List.set_cons_zero, List.set_cons_succ])

        refine wpAnyH_take (i := 2) (v := ?_) rfl (by kernel_rfl) (by kernel_rfl) (by kernel_rfl) (fun _ _ _ h => h) (Or.inl ⟨by rfl, ?_⟩) (by assumption) ?_
        rotate_left
        · (intro w' hSw; obtain ⟨m0, m1, m2, m3, m4, d0, d1, d2, d3, d4⟩ := hSw; go_simp; try (with_reducible rfl))
        (try simp only [Act.put, List.getElem_toArray, List.getElem_cons_zero, List.getElem_cons_succ, List.setIfInBounds_toArray, List.set_cons_zero, List.set_cons_succ])

        refine wpAnyH_take (i := 3) (v := ?_) rfl (by kernel_rfl) (by kernel_rfl) (by kernel_rfl) (fun _ _ _ h => h) (Or.inl ⟨by rfl, ?_⟩) (by assumption) ?_
        rotate_left
        · (intro w' hSw; obtain ⟨m0, m1, m2, m3, m4, d0, d1, d2, d3, d4⟩ := hSw; go_simp; try (with_reducible rfl))
        (try simp only [Act.put, List.getElem_toArray, List.getElem_cons_zero, List.getElem_cons_succ, List.setIfInBounds_toArray, List.set_cons_zero, List.set_cons_succ])

        refine wpAnyH_take (i := 4) (v := ?_) rfl (by kernel_rfl) (by kernel_rfl) (by kernel_rfl) (fun _ _ _ h => h) (Or.inl ⟨by rfl, ?_⟩) (by assumption) ?_
        rotate_left
        · (intro w' hSw; obtain ⟨m0, m1, m2, m3, m4, d0, d1, d2, d3, d4⟩ := hSw; go_simp; try (with_reducible rfl))
        (try simp only [Act.put, List.getElem_toArray, List.getElem_cons_zero, List.getElem_cons_succ, List.setIfInBounds_toArray, List.set_cons_zero, List.set_cons_succ])

        refine wpAnyH_ready (rs := [5, 7]) (by kernel_rfl) (by simp) (AllReadyH.cons rfl (fun KK hK => ?_) (AllReadyH.cons rfl (fun KK hK => ?_) AllReadyH.nil))
        · skip
          go_simp
          go_at_call 17
          refine (HD1.out _ HKD.out.mm.mem).mono ?_
          rintro e wd1 ⟨rfl, hm, hw⟩
          have HKA := hid (HKD.out.next hm hw)
          clear hm hw hHeld
          go_wp2_with fail
          refine hK.out _ _ (hc _ HKA.out) (fun hHeld => ?_)
          clear hK KK
          (try simp only [Act.put, List.getElem_toArray, List.getElem_cons_zero, List.getElem_cons_succ, List.setIfInBounds_toArray, List.set_cons_zero, List.set_cons_succ])

          refine wpAnyH_ready (rs := [6, 7]) (by kernel_rfl) (by simp) (AllReadyH.cons rfl (fun KK hK => ?_) (AllReadyH.cons rfl (fun KK hK => ?_) AllReadyH.nil))
          · skip
            go_simp
            go_at_call 17
            refine (HD2.out _ HKA.out.mm.mem).mono ?_
            rintro e wd2 ⟨rfl, hm, hw⟩
            have HKB := hid (HKA.out.next hm hw)
            clear hm hw hHeld
            go_wp2_with fail
            refine hK.out _ _ (hc _ HKB.out) (fun hHeld => ?_)
            clear hK KK
            (try simp only [Act.put, List.getElem_toArray, List.getElem_cons_zero, List.getElem_cons_succ, List.setIfInBounds_toArray, List.set_cons_zero, List.set_cons_succ])

            refine wpAnyH_ready (rs := [7]) (by kernel_rfl) (by simp) (AllReadyH.cons rfl (fun KK hK => ?_) AllReadyH.nil)
            go_simp
            refine hK.out _ _ (hc _ (HKB.out.later (bnew (bid _) _))) (fun hHeld => ?_)
            clear hK KK
            (try simp only [Act.put, List.getElem_toArray, List.getElem_cons_zero, List.getElem_cons_succ, List.setIfInBounds_toArray, List.set_cons_zero, List.set_cons_succ])

            refine wpAnyH_ready (rs := [8]) (by kernel_rfl) (by simp) (AllReadyH.cons rfl (fun KK hK => ?_) AllReadyH.nil)
            go_simp
            have HAW := hid (show T9 w q b vw q4 td2.2 ⟨1, 1, 9, false, 0⟩ (wd2.alloc (.cells (HD.mk 1 1 0 false 0).cells 24)) ∧ HandAt (wd2.alloc (.cells (HD.mk 1 1 0 false 0).cells 24)) wd2.heap.size ⟨1, 1, 0, false, 0⟩ from ⟨HKB.out.later (bnew (bid wd2) _), HandAt.new wd2 _⟩)
            refine hK.out _ _ (hc _ HAW.out.1) (fun hHeld => ?_)
            clear hK KK
            (try simp only [Act.put, List.getElem_toArray, List.getElem_cons_zero, List.getElem_cons_succ, List.setIfInBounds_toArray, List.set_cons_zero, List.set_cons_succ])

            refine wpAnyH_done (by kernel_rfl) ?_ _
            refine NoPanic.normal ?_
            go_wp2
            go_meet
            case rel => exact HT2.out _ _ _ rfl HAW.out.1 HAW.out.2
          · skip
            go_simp
            refine hK.out _ _ (hc _ (HKA.out.later (bnew (bid _) _))) (fun hHeld => ?_)
            clear hK KK
            (try simp only [Act.put, List.getElem_toArray, List.getElem_cons_zero, List.getElem_cons_succ, List.setIfInBounds_toArray, List.set_cons_zero, List.set_cons_succ])

            have HKZ := hid (HKA.out.later (bnew (bid wd1) (.cells h0.cells 24)))
            have HZ := hid (HandAt.new wd1 h0)
            have HFR := hid HKA.out.fresh
            refine wpAnyH_ready (rs := [6]) (by kernel_rfl) (by simp) (AllReadyH.cons rfl (fun KK hK => ?_) AllReadyH.nil)
            go_simp
            go_at_call 17
            refine (HD2.out _ HKZ.out.mm.mem).mono ?_
            rintro e wd2 ⟨rfl, hm, hw⟩
            have HKB := hid (HKZ.out.next hm hw)
            have HZ2 := hid (HZ.out.kept hw HFR.out.1)
            clear hm hw hHeld
            go_wp2_with fail
            refine hK.out _ _ (hc _ HKB.out) (fun hHeld => ?_)
            clear hK KK
            (try simp only [Act.put, List.getElem_toArray, List.getElem_cons_zero, List.getElem_cons_succ, List.setIfInBounds_toArray, List.set_cons_zero, List.set_cons_succ])

            refine wpAnyH_ready (rs := [8]) (by kernel_rfl) (by simp) (AllReadyH.cons rfl (fun KK hK => ?_) AllReadyH.nil)
            obtain ⟨e0, e1, e2, e3, e4, ef⟩ := HZ2.out.facts
            go_simp
            have HAW := hid (HKB.out.away HZ2.out HFR.out.1 HFR.out.2.1 HFR.out.2.2.1 HFR.out.2.2.2 ⟨1, 1, 0, false, 0⟩)
            refine hK.out _ _ (hc _ HAW.out.1) (fun hHeld => ?_)
            clear hK KK
            (try simp only [Act.put, List.getElem_toArray, List.getElem_cons_zero, List.getElem_cons_succ, List.setIfInBounds_toArray, List.set_cons_zero, List.set_cons_succ])

            refine wpAnyH_done (by kernel_rfl) ?_ _
            refine NoPanic.normal ?_
            go_wp2
            go_meet
            case rel => exact HT2.out _ _ _ rfl HAW.out.1 HAW.out.2
        · skip
          go_simp
          refine hK.out _ _ (hc _ (HKD.out.later (bnew (bid _) _))) (fun hHeld => ?_)
          clear hK KK
          (try simp only [Act.put, List.getElem_toArray, List.getElem_cons_zero, List.getElem_cons_succ, List.setIfInBounds_toArray, List.set_cons_zero, List.set_cons_succ])

          have HKZ := hid (HKD.out.later (bnew (bid wr.drew) (.cells h0.cells 24)))
          have HZ := hid (show HandAt (wr.drew.alloc (.cells h0.cells 24)) wr.heap.size h0 from HandAt.new wr.drew h0)
          have HFR := hid (show ¬ MemS b vw wr.heap.size ∧ wr.heap.size ≠ q ∧ wr.heap.size ≠ q4 ∧ w.heap.size ≤ wr.heap.size from HKD.out.fresh)
          refine wpAnyH_ready (rs := [5]) (by kernel_rfl) (by simp) (AllReadyH.cons rfl (fun KK hK => ?_) AllReadyH.nil)
          go_simp
          go_at_call 17
          refine (HD1.out _ HKZ.out.mm.mem).mono ?_
          rintro e wd1 ⟨rfl, hm, hw⟩
          have HKA := hid (HKZ.out.next hm hw)
          have HZ1 := hid (HZ.out.kept hw HFR.out.1)
          clear hm hw hHeld
          go_wp2_with fail
          refine hK.out _ _ (hc _ HKA.out) (fun hHeld => ?_)
          clear hK KK
          (try simp only [Act.put, List.getElem_toArray, List.getElem_cons_zero, List.getElem_cons_succ, List.setIfInBounds_toArray, List.set_cons_zero, List.set_cons_succ])

          refine wpAnyH_ready (rs := [6]) (by kernel_rfl) (by simp) (AllReadyH.cons rfl (fun KK hK => ?_) AllReadyH.nil)
          go_simp
          go_at_call 17
          refine (HD2.out _ HKA.out.mm.mem).mono ?_
          rintro e wd2 ⟨rfl, hm, hw⟩
          have HKB := hid (HKA.out.next hm hw)
          have HZ2 := hid (HZ1.out.kept hw HFR.out.1)
          clear hm hw hHeld
          go_wp2_with fail
          refine hK.out _ _ (hc _ HKB.out) (fun hHeld => ?_)
          clear hK KK
          (try simp only [Act.put, List.getElem_toArray, List.getElem_cons_zero, List.getElem_cons_succ, List.setIfInBounds_toArray, List.set_cons_zero, List.set_cons_succ])

          refine wpAnyH_ready (rs := [8]) (by kernel_rfl) (by simp) (AllReadyH.cons rfl (fun KK hK => ?_) AllReadyH.nil)
          obtain ⟨e0, e1, e2, e3, e4, ef⟩ := HZ2.out.facts
          go_simp
          have HAW := hid (HKB.out.away HZ2.out HFR.out.1 HFR.out.2.1 HFR.out.2.2.1 HFR.out.2.2.2 ⟨1, 1, 0, false, 0⟩)
          refine hK.out _ _ (hc _ HAW.out.1) (fun hHeld => ?_)
          clear hK KK
          (try simp only [Act.put, List.getElem_toArray, List.getElem_cons_zero, List.getElem_cons_succ, List.setIfInBounds_toArray, List.set_cons_zero, List.set_cons_succ])

          refine wpAnyH_done (by kernel_rfl) ?_ _
          refine NoPanic.normal ?_
          go_wp2
          go_meet
          case rel => exact HT2.out _ _ _ rfl HAW.out.1 HAW.out.2
      case rest =>
        obtain ⟨q5, rfl, hk, hg⟩ := hcut
        have HK := hid hk
        obtain ⟨m0, m1, m2, m3, m4, _⟩ := hk.mm.map.facts
        obtain ⟨_, _, d2, _, d4, _⟩ := hk.hand.facts
        obtain ⟨_, _, e2, _, _, _⟩ := hg.facts
        have HID := hid (fun (x : World) => (show Calls Try.prog 23 #[mp4.v, .int .i64 1, .int .i64 1] x fun e w' => e = .returned (.int .i64 4) ∧ Below x.heap.size x w' from by have := Id_any mp4 1 1 x; rwa [id9] at this))
        clear hk hg
        go_wp2_with (first | (go_at_call 34; (with_reducible refine (Steps_any _ _ _ _ _ HK.out.mm.mem).mono ?_); rw [HST.out]; rintro e w6 ⟨rfl, rfl⟩) | (go_at_call 23; (with_reducible refine (HID.out _).mono ?_); rintro e w7 ⟨rfl, hb7⟩; have HB7 := hid hb7; clear hb7))
        go_ret
        exact ⟨rfl, bthen HK.out.mm.below HB7.out⟩

end Go.Proofs.Ytmngpgocpamfgaa
