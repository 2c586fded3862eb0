/-
  ClockWaits: while the sequence word is odd nobody bumps it.
-/
import Derived.Test.YtkfajeimfpbfdaaBmpN
namespace Go.Proofs.Ytkfajeimfpbfdaa
open Go.RowKit
attribute [local go_sem] Later.cell Later.frozen

/-- The map, the memories, the bump's box. -/
structure WtAt (w : World) (q b : Nat) (vw : Value) (c : Nat) (vr : Value) (s t : MS) (a : Nat) (g : BD) (W : World) : Prop where
  fr : Fr w q b vw c vr s t W
  bx : Bx 23 w q b vw c vr a g W
section
variable {w : World} {q b : Nat} {vw : Value} {c : Nat} {vr : Value} {s t s' : MS} {a : Nat} {g : BD} {W W' : World}
theorem WtAt.later (k : WtAt w q b vw c vr s t a g W) (hb : Below W.heap.size W W') : WtAt w q b vw c vr s t a g W' := ⟨k.fr.later hb, k.bx.later hb⟩
theorem WtAt.one (k : WtAt w q b vw c vr s t a g W) (hm : Mem W' w.heap.size b vw s') (hw : Wrote (MemS b vw) W W') : WtAt w q b vw c vr s' t a g W' := ⟨k.fr.one hm hw, k.bx.one hw⟩
theorem WtAt.set (k : WtAt w q b vw c vr s t a g W) (h : BD) : WtAt w q b vw c vr s t a h ((((W.setCell ⟨a, 0, none⟩ (.int .i64 h.k)).setCell ⟨a, 1, none⟩ (.int .i64 h.s)).setCell ⟨a, 2, none⟩ (.int .i64 h.x)).setCell ⟨a, 3, none⟩ (.int .i64 h.p)) :=
  ⟨k.fr.box (wrote4 W a _ _ _ _) k.bx.a0 k.bx.ne k.bx.fr, k.bx.set h⟩
/-- What a statement of two nested steps reads. -/
def WtCells (q a : Nat) (g : BD) (W : World) : Prop :=
  W.cell? ⟨q, 0, none⟩ = some (.int .i64 2) ∧ W.cell? ⟨q, 1, none⟩ = some (.int .i64 2) ∧ W.cell? ⟨q, 2, none⟩ = some (.int .i64 4) ∧ W.cell? ⟨q, 3, none⟩ = some (.int .i64 0) ∧ W.cell? ⟨q, 4, none⟩ = some (.int .i64 2) ∧
    W.cell? ⟨a, 0, none⟩ = some (.int .i64 g.k) ∧ W.cell? ⟨a, 1, none⟩ = some (.int .i64 g.s) ∧ W.cell? ⟨a, 2, none⟩ = some (.int .i64 g.x) ∧ W.cell? ⟨a, 3, none⟩ = some (.int .i64 g.p)
theorem WtAt.cells (k : WtAt w q b vw c vr s t a g W) : WtCells q a g W := by
  obtain ⟨m0, m1, m2, m3, m4⟩ := k.fr.cells
  obtain ⟨e0, e1, e2, e3, _⟩ := k.bx.at_.facts
  exact ⟨m0, m1, m2, m3, m4, e0, e1, e2, e3⟩
/-- The stages: the inner step (5), the outer one (6), the store (7). -/
def WtD (w : World) (q b : Nat) (vw : Value) (c : Nat) (vr : Value) (s s2 s3 t : MS) (a : Nat) (g g3 : BD) (L : Nat → Bool) (W : World) : Prop :=
  WtAt w q b vw c vr (bif L 6 then s3 else bif L 5 then s2 else s) t a (bif L 7 then g3 else g) W
variable {s2 s3 : MS} {g3 : BD} {L : Nat → Bool}
theorem WtD.start (hL : ∀ j, L j = false) (h : WtAt w q b vw c vr s t a g W) : WtD w q b vw c vr s s2 s3 t a g g3 L W.drew := by
  unfold WtD; rw [hL 5, hL 6, hL 7]; exact h.later (bdrew (bid W))
theorem WtD.reads (h : WtD w q b vw c vr s s2 s3 t a g g3 L W) (h7 : L 7 = false) : WtCells q a g W := by
  unfold WtD at h; rw [h7] at h; exact h.cells
theorem WtD.at5 (h : WtD w q b vw c vr s s2 s3 t a g g3 L W) (h5 : L 5 = false) (h6 : L 6 = false) : WtAt w q b vw c vr s t a (bif L 7 then g3 else g) W := by
  unfold WtD at h; rw [h5, h6] at h; exact h
theorem WtD.at6 (h : WtD w q b vw c vr s s2 s3 t a g g3 L W) (h5 : L 5 = true) (h6 : L 6 = false) : WtAt w q b vw c vr s2 t a (bif L 7 then g3 else g) W := by
  unfold WtD at h; rw [h5, h6] at h; exact h
theorem WtD.at7 (h : WtD w q b vw c vr s s2 s3 t a g g3 L W) (h7 : L 7 = false) : WtAt w q b vw c vr (bif L 6 then s3 else bif L 5 then s2 else s) t a g W := by
  unfold WtD at h; rw [h7] at h; exact h
theorem WtD.put7 (h : WtD w q b vw c vr s s2 s3 t a g g3 L W) (h7 : L 7 = false) : WtD w q b vw c vr s s2 s3 t a g g3 (bump L 7) ((((W.setCell ⟨a, 0, none⟩ (.int .i64 g3.k)).setCell ⟨a, 1, none⟩ (.int .i64 g3.s)).setCell ⟨a, 2, none⟩ (.int .i64 g3.x)).setCell ⟨a, 3, none⟩ (.int .i64 g3.p)) := by
  have hd2 := (h.at7 h7).set g3
  unfold WtD
  rw [bump_at, bump_ne L (by decide : (6 : Nat) ≠ 7), bump_ne L (by decide : (5 : Nat) ≠ 7)]
  exact hd2
theorem WtD.end_ (hall : ∀ j, j < 8 → L j = true) (h : WtD w q b vw c vr s s2 s3 t a g g3 L W) : WtAt w q b vw c vr s3 t a g3 W := by
  unfold WtD at h; rw [hall 6 (by decide), hall 7 (by decide)] at h; exact h
end

set_option maxRecDepth 100000 in
set_option maxHeartbeats 8000000 in
theorem waits_any (x0 n0 : Int) (w : World) : Calls Try.prog 6 #[.int .i64 x0, .int .i64 n0] w fun e w' => e = .returned (.bool true) ∧ Below w.heap.size w w' := by
  have HBO := hid (fun (x : World) => (show Calls Try.prog 8 #[mp4.v] x (MadeBoth 48 x) from by have := Both_any mp4 x mp4_ok; rwa [mp4_size] at this))
  go_enter Try.func6, Try.ntmps6
  go_upto_region 2 with (go_at_call 7; (with_reducible refine (Map_any _).mono ?_); rintro e w1 ⟨rfl, hb1⟩; have HB1 := hid hb1; clear hb1)
  refine wp_rename (fun W => MapAt 25 W w1.heap.size mp4 ∧ Below w.heap.size w W) ⟨MapAt.new _ w1 mp4, bnew HB1.out _⟩ ?_
  have hq0 := HB1.out.size
  generalize w1.heap.size = q at hq0 ⊢
  clear HB1
  rintro W ⟨hk, hb⟩
  have HK := hid hk
  have HB := hid hb
  obtain ⟨m0, m1, m2, m3, m4, _⟩ := hk.facts
  clear hk hb
  go_upto_region 5 with (go_at_call 8; (with_reducible refine (HBO.out _).mono ?_); rintro e w2 ⟨b, vw, c, vr, rfl, hp, hb2⟩; have HP := hid hp; have HB2 := hid hb2; clear hp hb2)
  refine wp_rename (fun W' => Fr w q b vw c vr (MS.new (zrow 48)) (MS.new (zrow 48)) W') (Fr.start HK.out hq0 HB.out HP.out HB2.out) ?_
  clear HP HB2 HB HK HBO m0 m1 m2 m3 m4 hq0
  intro W3 hk
  have HK := hid hk
  obtain ⟨m0, m1, m2, m3, m4, _⟩ := hk.map.facts
  clear hk
  have HSQ := hid (fun (x : World) => (show Calls Try.prog 12 #[mp4.v] x fun e w' => e = .returned (.int .i64 1) ∧ Below x.heap.size x w' from by have := Seq_any mp4 x; rwa [seq1] at this))
  go_upto_region 6 with fail
  obtain ⟨k, hk, hkk⟩ := pick_ofN 549755813888 (by omega) (by omega) x0
  rw [hkk]
  clear hkk
  have hod : wrap64 (wrap64 (2 * (k : Int)) + 1) = 2 * (k : Int) + 1 := by rw [wrap_near (x := 2 * (k : Int)) (by omega) (by omega), wrap_near (by omega) (by omega)]
  rw [hod]
  clear hod
  obtain ⟨od, hod⟩ : ∃ od : Int, 2 * (k : Int) + 1 = od := ⟨_, rfl⟩
  have HOD := hid (show 0 ≤ od ∧ od ≤ 2000000000000 ∧ od % 2 = 1 from by omega)
  rw [hod]
  clear hod hk
  have HST := hid (fun (x : World) (hm : Mem x w.heap.size b vw (MS.new (zrow 48))) => Store_at 1 od x _ b vw _ hm)
  have HS0 := hid (show ((MS.new (zrow 48)).stored 1 od).zs.length = 48 ∧ ((MS.new (zrow 48)).stored 1 od).vAt 1 = od from ⟨by rw [len_stored]; exact zrow_len 48, vAt_stored (has48 (zrow_len 48) 1 (by omega)) _⟩)
  generalize (MS.new (zrow 48)).stored 1 od = s0 at *
  generalize MS.new (zrow 48) = t at *
  go_upto_region 7 with (first | (go_at_call 12; (with_reducible refine (HSQ.out _).mono ?_); rintro e w4 ⟨rfl, hb4⟩; have HK4 := hid (HK.out.later hb4); clear hb4) | (go_at_call 9; (with_reducible refine (HST.out _ HK4.out.mem).mono ?_); rintro e w5 ⟨rfl, hm5, hw5⟩; have HK5 := hid (HK4.out.one hm5 hw5); clear hm5 hw5))
  refine wp_rename _ HK5.out ?_
  clear HK5 HK4 HK HST m0 m1 m2 m3 m4
  intro W6 hk
  have HK := hid hk
  clear hk
  have HSA := hid (fun (x : World) => (show Calls Try.prog 20 #[.int .i64 2, .int .i64 1] x fun e w' => e = .returned (BD.mk 3 0 0 0).v ∧ Below x.heap.size x w' from Start_any 2 1 x))
  go_upto_region 8 with (go_at_call 20; (with_reducible refine (HSA.out _).mono ?_); rintro e w7 ⟨rfl, hb7⟩; have HK7 := hid (HK.out.later hb7); clear hb7)
  refine wp_rename (fun W' => WtAt w q b vw c vr s0 t w7.heap.size ⟨3, 0, 0, 0⟩ W') ⟨HK7.out.later (bnew (bid _) _), Bx.new _ HK7.out ⟨3, 0, 0, 0⟩⟩ ?_
  generalize w7.heap.size = a
  clear HK7 HK HSA
  intro W8 hk
  have HK := hid hk
  clear hk
  obtain ⟨r, hr, hrr⟩ := pick_ofN 20 (by omega) (by omega) n0
  go_wp2_with fail
  go_loopw [10] (fun i W => ∃ k : Nat, k ≤ r ∧ i = .int .i64 k ∧ ∃ s : MS, s.zs.length = 48 ∧ s.vAt 1 = od ∧ WtAt w q b vw c vr s t a ⟨3, 0, 0, 0⟩ W) (fun i _ => r - (intOf i).toNat)
  case atStart => exact ⟨0, by omega, rfl, s0, HS0.out.1, HS0.out.2, HK.out⟩
  case round =>
    clear HK HS0
    obtain ⟨k, hk, rfl, s, hz, hv, hW⟩ := hrel
    have HK := hid hW
    have HZ := hid hz
    have HV := hid hv
    clear hW hz hv
    have HSQL := hid (fun (x : World) => Seq_any mp4 x)
    obtain ⟨m0, m1, m2, m3, m4, _⟩ := HK.out.fr.map.facts
    obtain ⟨e0, e1, e2, e3, ef⟩ := HK.out.bx.at_.facts
    by_cases hlt : k < r
    · have i1 : (0 : Int) ≤ (k : Int) := by omega
      have i2 : (k : Int) < (r : Int) := by omega
      have HSTP := hid (fun (x : World) (hm : Mem x w.heap.size b vw s) => (show Calls Try.prog 13 #[mp4.v, .pointer (some ⟨b, 0, none⟩), (BD.mk 3 0 0 0).v] x (BumpRet 62 2 ⟨3, 0, 0, 0⟩ (s.loaded 1) w.heap.size b vw x) from by
        have := Step_any mp4 ⟨3, 0, 0, 0⟩ x _ b vw s hm (by rw [mp4_size, HZ.out]; decide)
        rwa [even0o (by rw [HV.out]; exact HOD.out.2.2)] at this))
      go_upto_region 12 with (go_at_call 13; (with_reducible refine (HSTP.out _ HK.out.fr.mem).mono ?_); rintro e w9 ⟨rfl, hm9, hw9⟩; have HK9 := hid (HK.out.one hm9 hw9); obtain ⟨d0, d1, d2, d3, df⟩ := HK9.out.bx.at_.facts; clear hm9 hw9)
      refine wp_rename (fun W' => WtAt w q b vw c vr (s.loaded 1) t a ⟨3, 0, 0, 0⟩ W') (HK9.out.set ⟨3, 0, 0, 0⟩) ?_
      clear HK9 HK HSTP m0 m1 m2 m3 m4 e0 e1 e2 e3 ef d0 d1 d2 d3 df
      intro W9 hk9
      have HK := hid hk9
      obtain ⟨m0, m1, m2, m3, m4, _⟩ := hk9.fr.map.facts
      obtain ⟨e0, e1, e2, e3, ef⟩ := hk9.bx.at_.facts
      clear hk9
      have HPK := hid (fun (x : World) (hm : Mem x w.heap.size b vw (s.loaded 1)) => (show Calls Try.prog 24 #[.pointer (some ⟨b, 0, none⟩), .int .i64 1] x fun e w' => e = .returned (.int .i64 od) ∧ x = w' from by
        have := Peek_at 1 x _ b vw _ hm
        rwa [vAt_loaded, HV.out] at this))
      go_wp2_with (first | (go_at_call 12; (with_reducible refine (HSQ.out _).mono ?_); rintro e w4 ⟨rfl, hb4⟩; have HK4 := hid (HK.out.later hb4); clear hb4) | (go_at_call 24; (with_reducible refine (HPK.out _ HK4.out.fr.mem).mono ?_); rintro e w5 ⟨rfl, rfl⟩))
      go_roundw
      case rel => exact ⟨k + 1, by omega, by go_num, s.loaded 1, by rw [len_loaded]; exact HZ.out, by rw [vAt_loaded]; exact HV.out, HK4.out⟩
      case measure => simp [intOf]; omega
    · obtain rfl : k = r := by omega
      have HST := hid (fun (x : World) (hm : Mem x w.heap.size b vw s) => Store_at 1 (od + 1) x _ b vw _ hm)
      have HAF := hid (after_wait HZ.out HOD.out.1 HOD.out.2.1 HOD.out.2.2)
      have HL1 := hid (show (s.stored 1 (od + 1)).zs.length = 48 from by rw [len_stored]; exact HZ.out)
      have hw1 : wrap64 (od + 1) = od + 1 := wrap_near (by have := HOD.out; omega) (by have := HOD.out; omega)
      have hw3 : wrap64 (od + 3) = od + 3 := wrap_near (by have := HOD.out; omega) (by have := HOD.out; omega)
      go_upto_region 15 with (first | (go_at_call 12; (with_reducible refine (HSQ.out _).mono ?_); rintro e w4 ⟨rfl, hb4⟩; have HK4 := hid (HK.out.later hb4); clear hb4) | (go_at_call 9; (with_reducible refine (HST.out _ HK4.out.fr.mem).mono ?_); rintro e w5 ⟨rfl, hm5, hw5⟩; have HK5 := hid (HK4.out.one hm5 hw5); clear hm5 hw5))
      refine wp_rename _ HK5.out ?_
      clear HK5 HK4 HK HST m0 m1 m2 m3 m4 e0 e1 e2 e3 ef
      intro W9 hk9
      have HK := hid hk9
      clear hk9
      have HS1 := hid (fun (x : World) (hm : Mem x w.heap.size b vw (s.stored 1 (od + 1))) => (show Calls Try.prog 13 #[mp4.v, .pointer (some ⟨b, 0, none⟩), (BD.mk 3 0 0 0).v] x (BumpRet 62 2 ⟨3, 1, od + 1, 0⟩ (bumpF mp4 (s.stored 1 (od + 1)) ⟨3, 0, 0, 0⟩).2 w.heap.size b vw x) from by
        have := Step_any mp4 ⟨3, 0, 0, 0⟩ x _ b vw _ hm (by rw [mp4_size, HL1.out]; decide)
        rwa [HAF.out.1] at this))
      have HS2 := hid (fun (x : World) (hm : Mem x w.heap.size b vw (bumpF mp4 (s.stored 1 (od + 1)) ⟨3, 0, 0, 0⟩).2) => (show Calls Try.prog 13 #[mp4.v, .pointer (some ⟨b, 0, none⟩), (BD.mk 3 1 (od + 1) 0).v] x (BumpRet 62 2 ⟨3, 9, od + 1, od + 3⟩ (bumpF mp4 (bumpF mp4 (s.stored 1 (od + 1)) ⟨3, 0, 0, 0⟩).2 ⟨3, 1, od + 1, 0⟩).2 w.heap.size b vw x) from by
        have := Step_any mp4 ⟨3, 1, od + 1, 0⟩ x _ b vw _ hm (by rw [mp4_size, len_bumpF, HL1.out]; decide)
        rwa [HAF.out.2.1] at this))
      have HV3 := hid HAF.out.2.2
      clear HAF HL1
      generalize (bumpF mp4 (bumpF mp4 (s.stored 1 (od + 1)) ⟨3, 0, 0, 0⟩).2 ⟨3, 1, od + 1, 0⟩).2 = s3 at *
      generalize (bumpF mp4 (s.stored 1 (od + 1)) ⟨3, 0, 0, 0⟩).2 = s2 at *
      generalize s.stored 1 (od + 1) = s1 at *
      have hne1 : Nonempty (Sat (WtCells q a ⟨3, 0, 0, 0⟩)) := ⟨⟨_, HK.out.cells⟩⟩
      have hne2 : Nonempty (Sat (fun _ => True)) := ⟨⟨w, trivial⟩⟩
      have y0 := fun (x : Sat (WtCells q a ⟨3, 0, 0, 0⟩)) => x.p.1
      have y1 := fun (x : Sat (WtCells q a ⟨3, 0, 0, 0⟩)) => x.p.2.1
      have y2 := fun (x : Sat (WtCells q a ⟨3, 0, 0, 0⟩)) => x.p.2.2.1
      have y3 := fun (x : Sat (WtCells q a ⟨3, 0, 0, 0⟩)) => x.p.2.2.2.1
      have y4 := fun (x : Sat (WtCells q a ⟨3, 0, 0, 0⟩)) => x.p.2.2.2.2.1
      have y5 := fun (x : Sat (WtCells q a ⟨3, 0, 0, 0⟩)) => x.p.2.2.2.2.2.1
      have y6 := fun (x : Sat (WtCells q a ⟨3, 0, 0, 0⟩)) => x.p.2.2.2.2.2.2.1
      have y7 := fun (x : Sat (WtCells q a ⟨3, 0, 0, 0⟩)) => x.p.2.2.2.2.2.2.2.1
      have y8 := fun (x : Sat (WtCells q a ⟨3, 0, 0, 0⟩)) => x.p.2.2.2.2.2.2.2.2
      refine wp_region_staged (WtD w q b vw c vr s1 s2 s3 t a ⟨3, 0, 0, 0⟩ ⟨3, 9, od + 1, od + 3⟩) (by kernel_rfl) (by kernel_rfl) (fun L hL => WtD.start hL HK.out) ?_
      refine wpS_plain (WtCells q a ⟨3, 0, 0, 0⟩) (fun L W hL hcl hd => WtD.reads hd (hcl.no hL (j := 7) (by kernel_rfl))) (fun _ _ h => h) rfl rfl ?_
      intro KK hKK
      go_big_quiet_op
      go_big_quiet_on
      refine wpS_plain (fun _ => True) (fun _ _ _ _ _ => trivial) (fun _ _ h => h) rfl rfl ?_
      intro KK hKK
      go_big_quiet_op
      go_big_quiet_on
      refine wpS_plain (WtCells q a ⟨3, 0, 0, 0⟩) (fun L W hL hcl hd => WtD.reads hd (hcl.no hL (j := 7) (by kernel_rfl))) (fun _ _ h => h) rfl rfl ?_
      intro KK hKK
      go_big_quiet_op
      go_big_quiet_on
      refine wpS_plain (fun _ => True) (fun _ _ _ _ _ => trivial) (fun _ _ h => h) rfl rfl ?_
      intro KK hKK
      go_big_quiet_op
      go_big_quiet_on
      refine wpS_plain (WtCells q a ⟨3, 0, 0, 0⟩) (fun L W hL hcl hd => WtD.reads hd (hcl.no hL (j := 7) (by kernel_rfl))) (fun _ _ h => h) rfl rfl ?_
      intro KK hKK
      go_big_quiet_op
      go_big_quiet_on
      refine wpS_call 13 #[(PM.v mp4), .pointer (some ⟨b, 0, none⟩), (BD.mk 3 0 0 0).v] (BD.mk 3 1 (od + 1) 0).v rfl (fun _ => by go_simp) ?_ ?_
      · intro L W hL hcl hd
        have h6 : L 6 = false := hcl.no hL (j := 6) (by kernel_rfl)
        have hd1 := WtD.at5 hd hL h6
        refine (HS1.out _ hd1.fr.mem).mono ?_
        rintro e w'' ⟨rfl, hm, hw⟩
        refine ⟨rfl, ?_⟩
        have hd2 := hd1.one hm hw
        unfold WtD
        rw [bump_ne L (by decide : (6 : Nat) ≠ 5), bump_at, bump_ne L (by decide : (7 : Nat) ≠ 5), h6]
        exact hd2
      (try simp only [Act.put, List.getElem_toArray, List.getElem_cons_zero, List.getElem_cons_succ, List.setIfInBounds_toArray, List.set_cons_zero, List.set_cons_succ])
      refine wpS_call 13 #[(PM.v mp4), .pointer (some ⟨b, 0, none⟩), (BD.mk 3 1 (od + 1) 0).v] (BD.mk 3 9 (od + 1) (od + 3)).v rfl (fun _ => by go_simp) ?_ ?_
      · intro L W hL hcl hd
        have h5 : L 5 = true := hcl.dep (i := 5) (by kernel_rfl)
        have hd1 := WtD.at6 hd h5 hL
        refine (HS2.out _ hd1.fr.mem).mono ?_
        rintro e w'' ⟨rfl, hm, hw⟩
        refine ⟨rfl, ?_⟩
        have hd2 := hd1.one hm hw
        unfold WtD
        rw [bump_at, bump_ne L (by decide : (7 : Nat) ≠ 6)]
        exact hd2
      (try simp only [Act.put, List.getElem_toArray, List.getElem_cons_zero, List.getElem_cons_succ, List.setIfInBounds_toArray, List.set_cons_zero, List.set_cons_succ])
      refine wpS_store rfl ?_ ?_
      · intro L W hL hcl hd
        have hd1 := WtD.at7 hd hL
        obtain ⟨e0, e1, e2, e3, ef⟩ := hd1.bx.at_.facts
        exact ⟨_, by go_simp, WtD.put7 hd hL⟩
      (try simp only [Act.put, List.getElem_toArray, List.getElem_cons_zero, List.getElem_cons_succ, List.setIfInBounds_toArray, List.set_cons_zero, List.set_cons_succ])
      intro L W hall hd
      have HE := hid (WtD.end_ hall hd)
      clear hd hall
      clear y0 y1 y2 y3 y4 y5 y6 y7 y8 hne1 hne2 HK HS1 HS2
      obtain ⟨e0, e1, e2, e3, ef⟩ := HE.out.bx.at_.facts
      obtain ⟨m0, m1, m2, m3, m4, _⟩ := HE.out.fr.map.facts
      have HPK := hid (fun (x : World) (hm : Mem x w.heap.size b vw s3) => (show Calls Try.prog 24 #[.pointer (some ⟨b, 0, none⟩), .int .i64 1] x fun e w' => e = .returned (.int .i64 (od + 3)) ∧ x = w' from by
        have := Peek_at 1 x _ b vw _ hm
        rwa [HV3.out] at this))
      go_wp2_with (first | (go_at_call 16; (with_reducible refine (told11_any _).mono ?_); rintro e w4 ⟨rfl, hb4⟩; have HE4 := hid (HE.out.later hb4); clear hb4 e0 e1 e2 e3 ef m0 m1 m2 m3 m4; obtain ⟨e0, e1, e2, e3, ef⟩ := HE4.out.bx.at_.facts; obtain ⟨m0, m1, m2, m3, m4, _⟩ := HE4.out.fr.map.facts) | (go_at_call 12; (with_reducible refine (HSQ.out _).mono ?_); rintro e w5 ⟨rfl, hb5⟩; have HE5 := hid (HE4.out.later hb5); clear hb5) | (go_at_call 24; (with_reducible refine (HPK.out _ HE5.out.fr.mem).mono ?_); rintro e w6 ⟨rfl, rfl⟩))
      go_ret
      exact ⟨rfl, HE5.out.fr.below⟩

end Go.Proofs.Ytkfajeimfpbfdaa
