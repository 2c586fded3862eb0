/-
  The document's example of the clock.
-/
import Derived.Test.YtkfajeimfpbfdaaClkT
namespace Go.Proofs.Ytkfajeimfpbfdaa
open Go.RowKit
attribute [local go_sem] Later.cell Later.frozen

theorem zrow_len (N : Nat) : (MS.new (zrow N)).zs.length = N := by simp [MS.new, zrow]
def tb1 : MS := (MS.new (zrow 48)).stored 0 4
def tb2 : BD × MS := bumpF mp4 tb1 ⟨1, 0, 0, 0⟩
theorem tb2_eq : tb2.1 = ⟨1, 9, 0, 5⟩ := sameBD_iff.1 (by decide +kernel)
theorem tb2_steps : tb2.2.steps = 2 := by decide +kernel
theorem tb1_len : tb1.zs.length = 48 := by decide +kernel
theorem clock0 : mp4.at_ 0 0 0 = 0 := by decide
theorem seq1 : mp4.at_ 1 0 0 = 1 := by decide
theorem start11 : startF 1 1 = ⟨1, 0, 0, 0⟩ := rfl

set_option maxRecDepth 100000 in
set_option maxHeartbeats 8000000 in
theorem told11_any (w : World) : Calls Try.prog 16 #[] w fun e w' => e = .returned (.bool true) ∧ Below w.heap.size w w' := by
  have HBO := hid (fun (x : World) => (show Calls Try.prog 8 #[mp4.v] x (MadeBoth 48 x) from by have := Both_any mp4 x mp4_ok; rwa [mp4_size] at this))
  go_enter Try.func16, Try.ntmps16
  go_upto_region 2 with (go_at_call 7; (with_reducible refine (Map_any _).mono ?_); rintro e w1 ⟨rfl, hb1⟩; have HB1 := hid hb1; clear hb1)
  refine wp_rename (fun W => MapAt 25 W w1.heap.size mp4 ∧ Below w.heap.size w W) ⟨MapAt.new _ w1 mp4, bnew HB1.out _⟩ ?_
  have hq0 := HB1.out.size
  generalize w1.heap.size = q at hq0 ⊢
  clear HB1
  rintro W ⟨hk, hb⟩
  have HK := hid hk
  have HB := hid hb
  obtain ⟨m0, m1, m2, m3, m4, _⟩ := hk.facts
  clear hk hb
  go_upto_region 5 with (go_at_call 8; (with_reducible refine (HBO.out _).mono ?_); rintro e w2 ⟨b, vw, c, vr, rfl, hp, hb2⟩; have HP := hid hp; have HB2 := hid hb2; clear hp hb2)
  refine wp_rename (fun W' => Fr w q b vw c vr (MS.new (zrow 48)) (MS.new (zrow 48)) W') (Fr.start HK.out hq0 HB.out HP.out HB2.out) ?_
  clear HP HB2 HB HK HBO m0 m1 m2 m3 m4 hq0
  intro W3 hk
  have HK := hid hk
  obtain ⟨m0, m1, m2, m3, m4, _⟩ := hk.map.facts
  clear hk
  have HCK := hid (fun (x : World) => (show Calls Try.prog 10 #[mp4.v] x fun e w' => e = .returned (.int .i64 0) ∧ Below x.heap.size x w' from by have := Clock_any mp4 x; rwa [clock0] at this))
  have HST := hid (fun (x : World) (hm : Mem x w.heap.size b vw (MS.new (zrow 48))) => (show Calls Try.prog 9 #[.pointer (some ⟨b, 0, none⟩), .int .i64 0, .int .i64 4] x fun e w' => e = .returned (.int .i64 0) ∧ Mem w' w.heap.size b vw tb1 ∧ Wrote (MemS b vw) x w' from Store_at 0 4 x _ b vw _ hm))
  have HSTP := hid (fun (x : World) (hm : Mem x w.heap.size b vw tb1) => (show Calls Try.prog 13 #[mp4.v, .pointer (some ⟨b, 0, none⟩), (BD.mk 1 0 0 0).v] x (BumpRet 62 2 ⟨1, 9, 0, 5⟩ tb2.2 w.heap.size b vw x) from by
    have := Step_any mp4 ⟨1, 0, 0, 0⟩ x _ b vw tb1 hm (by rw [mp4_size, tb1_len]; decide)
    rw [← tb2_eq]
    exact this))
  have HSA := hid (fun (x : World) => (show Calls Try.prog 20 #[.int .i64 1, .int .i64 1] x fun e w' => e = .returned (BD.mk 1 0 0 0).v ∧ Below x.heap.size x w' from Start_any 1 1 x))
  have HSP := hid tb2_steps
  go_upto_region 6 with (first | (go_at_call 10; (with_reducible refine (HCK.out _).mono ?_); rintro e w4 ⟨rfl, hb4⟩; have HK4 := hid (HK.out.later hb4); clear hb4) | (go_at_call 9; (with_reducible refine (HST.out _ HK4.out.mem).mono ?_); rintro e w5 ⟨rfl, hm5, hw5⟩; have HK5 := hid (HK4.out.one hm5 hw5); clear hm5 hw5))
  refine wp_rename _ HK5.out ?_
  clear HK5 HK4 HK HST HCK m0 m1 m2 m3 m4
  intro W6 hk
  have HK := hid hk
  clear hk
  generalize MS.new (zrow 48) = t at *
  generalize tb1 = s1 at *
  generalize tb2.2 = s2 at *
  go_cut [4] (fun v W => ∃ a, v = .pointer (some ⟨a, 0, none⟩) ∧ Fr w q b vw c vr s2 t W ∧ Bx 23 w q b vw c vr a ⟨1, 9, 0, 5⟩ W)
  case first =>
    apply with_tail1 (R := fun ga Z => Td w q b vw c vr s2 t (some ga) Z)
    case h1 =>
      intro tail
      have hS := (HK.out.later (bdrew (bid _))).cells
      refine wp_region_noPanic ?_
      refine wp_region_held_drew (S := (fun w' => w'.cell? ⟨q, 0, none⟩ = some (.int .i64 2) ∧ w'.cell? ⟨q, 1, none⟩ = some (.int .i64 2) ∧ w'.cell? ⟨q, 2, none⟩ = some (.int .i64 4) ∧ w'.cell? ⟨q, 3, none⟩ = some (.int .i64 0) ∧ w'.cell? ⟨q, 4, none⟩ = some (.int .i64 2))) (by kernel_rfl) hS (fun hHeld => ?_)
      clear hS
      refine wpAnyH_take (i := 0) (v := ?_) rfl (by kernel_rfl) (by kernel_rfl) (by kernel_rfl) (fun _ _ _ h => h) (Or.inl ⟨by rfl, ?_⟩) (by assumption) ?_
      rotate_left
      · (intro w' hSw; (try dsimp only at hSw); go_simp; try (with_reducible rfl))
      (try simp only [Act.put, List.getElem_toArray, List.getElem_cons_zero, List.getElem_cons_succ, List.setIfInBounds_toArray, List.set_cons_zero, List.set_cons_succ])
      refine wpAnyH_take (i := 1) (v := ?_) rfl (by kernel_rfl) (by kernel_rfl) (by kernel_rfl) (fun _ _ _ h => h) (Or.inl ⟨by rfl, ?_⟩) (by assumption) ?_
      rotate_left
      · (intro w' hSw; (try dsimp only at hSw); go_simp; try (with_reducible rfl))
      (try simp only [Act.put, List.getElem_toArray, List.getElem_cons_zero, List.getElem_cons_succ, List.setIfInBounds_toArray, List.set_cons_zero, List.set_cons_succ])
      have HN0 := hid (⟨HK.out.later (bdrew (bid _)), trivial⟩ : Td w q b vw c vr s1 t none _)
      clear hHeld
      refine rename_to (Td w q b vw c vr s1 t none) HN0.out ?_
      clear HN0
      intro Z hn
      have HN := hid hn
      clear hn
      refine wpAnyH_ready (rs := [2, 4]) (by kernel_rfl) (by simp) (AllReadyH.cons rfl (fun KK hK => ?_) (AllReadyH.cons rfl (fun KK hK => ?_) AllReadyH.nil))
      · go_simp
        go_at_call 20
        refine (HSA.out _).mono ?_
        rintro e w7 ⟨rfl, hb⟩
        have HN1 := hid (HN.out.later hb)
        clear hb HN
        have HN := HN1
        clear HN1
        go_wp2_with fail
        refine hK.out _ _ HN.out.fr.cells (fun hHeld => ?_)
        clear hK KK hHeld
        (try simp only [Act.put, List.getElem_toArray, List.getElem_cons_zero, List.getElem_cons_succ, List.setIfInBounds_toArray, List.set_cons_zero, List.set_cons_succ])
        refine rename_to (Td w q b vw c vr s1 t none) HN.out ?_
        clear HN
        intro Z hn
        have HN := hid hn
        clear hn
        refine wpAnyH_ready (rs := [3, 4]) (by kernel_rfl) (by simp) (AllReadyH.cons rfl (fun KK hK => ?_) (AllReadyH.cons rfl (fun KK hK => ?_) AllReadyH.nil))
        · go_simp
          go_at_call 13
          refine (HSTP.out _ HN.out.fr.mem).mono ?_
          rintro e w7 ⟨rfl, hm, hw⟩
          have HN1 := hid (HN.out.one hm hw)
          clear hm hw HN
          have HN := HN1
          clear HN1
          go_wp2_with fail
          refine hK.out _ _ HN.out.fr.cells (fun hHeld => ?_)
          clear hK KK hHeld
          (try simp only [Act.put, List.getElem_toArray, List.getElem_cons_zero, List.getElem_cons_succ, List.setIfInBounds_toArray, List.set_cons_zero, List.set_cons_succ])
          refine rename_to (Td w q b vw c vr s2 t none) HN.out ?_
          clear HN
          intro Z hn
          have HN := hid hn
          clear hn
          refine wpAnyH_ready (rs := [4]) (by kernel_rfl) (by simp) (AllReadyH.cons rfl (fun KK hK => ?_) AllReadyH.nil)
          have hnew := HN.out.new
          clear HN
          go_simp
          generalize Z.heap.size = ga at hnew ⊢
          have HN := hid hnew
          clear hnew
          refine hK.out _ _ HN.out.fr.cells (fun hHeld => ?_)
          clear hK KK hHeld
          (try simp only [Act.put, List.getElem_toArray, List.getElem_cons_zero, List.getElem_cons_succ, List.setIfInBounds_toArray, List.set_cons_zero, List.set_cons_succ])
          refine rename_to (Td w q b vw c vr s2 t (some ga)) HN.out ?_
          clear HN
          intro Z hn
          have HN := hid hn
          clear hn
          exact tail ga Z HN.out
        · have hnew := HN.out.new
          clear HN
          go_simp
          generalize Z.heap.size = ga at hnew ⊢
          have HN := hid hnew
          clear hnew
          refine hK.out _ _ HN.out.fr.cells (fun hHeld => ?_)
          clear hK KK hHeld
          (try simp only [Act.put, List.getElem_toArray, List.getElem_cons_zero, List.getElem_cons_succ, List.setIfInBounds_toArray, List.set_cons_zero, List.set_cons_succ])
          refine rename_to (Td w q b vw c vr s1 t (some ga)) HN.out ?_
          clear HN
          intro Z hn
          have HN := hid hn
          clear hn
          refine wpAnyH_ready (rs := [3]) (by kernel_rfl) (by simp) (AllReadyH.cons rfl (fun KK hK => ?_) AllReadyH.nil)
          go_simp
          go_at_call 13
          refine (HSTP.out _ HN.out.fr.mem).mono ?_
          rintro e w7 ⟨rfl, hm, hw⟩
          have HN1 := hid (HN.out.one hm hw)
          clear hm hw HN
          have HN := HN1
          clear HN1
          go_wp2_with fail
          refine hK.out _ _ HN.out.fr.cells (fun hHeld => ?_)
          clear hK KK hHeld
          (try simp only [Act.put, List.getElem_toArray, List.getElem_cons_zero, List.getElem_cons_succ, List.setIfInBounds_toArray, List.set_cons_zero, List.set_cons_succ])
          refine rename_to (Td w q b vw c vr s2 t (some ga)) HN.out ?_
          clear HN
          intro Z hn
          have HN := hid hn
          clear hn
          exact tail ga Z HN.out
      · have hnew := HN.out.new
        clear HN
        go_simp
        generalize Z.heap.size = ga at hnew ⊢
        have HN := hid hnew
        clear hnew
        refine hK.out _ _ HN.out.fr.cells (fun hHeld => ?_)
        clear hK KK hHeld
        (try simp only [Act.put, List.getElem_toArray, List.getElem_cons_zero, List.getElem_cons_succ, List.setIfInBounds_toArray, List.set_cons_zero, List.set_cons_succ])
        refine rename_to (Td w q b vw c vr s1 t (some ga)) HN.out ?_
        clear HN
        intro Z hn
        have HN := hid hn
        clear hn
        refine wpAnyH_ready (rs := [2]) (by kernel_rfl) (by simp) (AllReadyH.cons rfl (fun KK hK => ?_) AllReadyH.nil)
        go_simp
        go_at_call 20
        refine (HSA.out _).mono ?_
        rintro e w7 ⟨rfl, hb⟩
        have HN1 := hid (HN.out.later hb)
        clear hb HN
        have HN := HN1
        clear HN1
        go_wp2_with fail
        refine hK.out _ _ HN.out.fr.cells (fun hHeld => ?_)
        clear hK KK hHeld
        (try simp only [Act.put, List.getElem_toArray, List.getElem_cons_zero, List.getElem_cons_succ, List.setIfInBounds_toArray, List.set_cons_zero, List.set_cons_succ])
        refine rename_to (Td w q b vw c vr s1 t (some ga)) HN.out ?_
        clear HN
        intro Z hn
        have HN := hid hn
        clear hn
        refine wpAnyH_ready (rs := [3]) (by kernel_rfl) (by simp) (AllReadyH.cons rfl (fun KK hK => ?_) AllReadyH.nil)
        go_simp
        go_at_call 13
        refine (HSTP.out _ HN.out.fr.mem).mono ?_
        rintro e w7 ⟨rfl, hm, hw⟩
        have HN1 := hid (HN.out.one hm hw)
        clear hm hw HN
        have HN := HN1
        clear HN1
        go_wp2_with fail
        refine hK.out _ _ HN.out.fr.cells (fun hHeld => ?_)
        clear hK KK hHeld
        (try simp only [Act.put, List.getElem_toArray, List.getElem_cons_zero, List.getElem_cons_succ, List.setIfInBounds_toArray, List.set_cons_zero, List.set_cons_succ])
        refine rename_to (Td w q b vw c vr s2 t (some ga)) HN.out ?_
        clear HN
        intro Z hn
        have HN := hid hn
        clear hn
        exact tail ga Z HN.out
    case h2 =>
      intro ga Z hn
      have HN := hid hn
      clear hn
      refine wpAnyH_ready (rs := [5]) (by kernel_rfl) (by simp) (AllReadyH.cons rfl (fun KK hK => ?_) AllReadyH.nil)
      obtain ⟨e0, e1, e2, e3, ef⟩ := HN.out.own.at_.facts
      go_simp
      have HE := hid (show Fr w q b vw c vr s2 t _ ∧ Bx 23 w q b vw c vr ga ⟨1, 9, 0, 5⟩ _ from ⟨HN.out.fr.box (wrote4 Z ga (.int .i64 1) (.int .i64 9) (.int .i64 0) (.int .i64 5)) HN.out.own.a0 HN.out.own.ne HN.out.own.fr, HN.out.own.set ⟨1, 9, 0, 5⟩⟩)
      clear HN e0 e1 e2 e3 ef
      refine hK.out _ _ HE.out.1.cells (fun hHeld => ?_)
      clear hK KK hHeld
      (try simp only [Act.put, List.getElem_toArray, List.getElem_cons_zero, List.getElem_cons_succ, List.setIfInBounds_toArray, List.set_cons_zero, List.set_cons_succ])
      refine wpAnyH_done (by kernel_rfl) ?_ _
      refine NoPanic.normal ?_
      go_wp2_with fail
      go_meet
      case rel => exact ⟨_, rfl, HE.out.1, HE.out.2⟩
  case rest =>
    clear HK HSTP HSA
    obtain ⟨ga, rfl, hk, hbx⟩ := hcut
    have HK := hid hk
    obtain ⟨e0, e1, e2, e3, ef⟩ := hbx.at_.facts
    clear hk hbx
    go_wp2_with (first | (go_at_call 44; (with_reducible refine (Steps_any _ _ _ _ _ HK.out.mem).mono ?_); rw [HSP.out]; rintro e w6 ⟨rfl, rfl⟩) | (go_at_call 22; (with_reducible refine (Over_any _ _ _).mono ?_); rintro e w7 ⟨rfl, rfl⟩))
    go_ret
    exact ⟨rfl, HK.out.below⟩

end Go.Proofs.Ytkfajeimfpbfdaa
