/-
  play: four hands at a lock by picks: what comes of it.
-/
import Derived.Test.YtmngpgocpamfgaaPlAt
namespace Go.Proofs.Ytmngpgocpamfgaa
open Go.RowKit
attribute [local go_sem] Later.cell Later.frozen

theorem mcTake_kind (m : PM) (s : MS) (h : HD) (h5 : h.s ≤ 5) (h0 : 0 ≤ h.s) : (mcTake m s h).1.s ≤ 5 ∨ (mcTake m s h).1.s = 9 := by
  by_cases hm : mayH m h
  · rcases (show h.s = 0 ∨ h.s = 1 ∨ h.s = 2 ∨ h.s = 3 ∨ h.s = 4 ∨ h.s = 5 by omega) with e | e | e | e | e | e
    · rw [mcT0 hm e]; exact .inl (by show (1 : Int) ≤ 5; decide)
    · rw [mcT1 hm e]; exact .inl (by show (2 : Int) ≤ 5; decide)
    · rw [mcT2 hm e]; exact .inl (by show (3 : Int) ≤ 5; decide)
    · rw [mcT3 hm e]
      unfold mcQueue
      split
      · split
        · exact .inr rfl
        · exact .inl (by show (4 : Int) ≤ 5; decide)
      · exact .inl h5
    · rw [mcT4 hm e]
      split
      · exact .inl (by show (5 : Int) ≤ 5; decide)
      · exact .inl h5
    · rw [mcT5 hm e]
      split
      · exact .inr rfl
      · exact .inl h5
  · unfold mcTake
    rw [if_neg hm]
    exact .inl h5
theorem mcDrop_kind (m : PM) (s : MS) (h : HD) (h5 : 5 < h.s) (h9 : h.s ≤ 9) : (mcDrop m s h).1.s = 0 ∨ 5 < (mcDrop m s h).1.s := by
  by_cases hm : mayH m h
  · rcases (show h.s = 9 ∨ h.s = 6 ∨ h.s = 7 ∨ h.s = 8 by omega) with e | e | e | e
    · rw [mcD9 hm e]
      split
      · exact .inr (by show (5 : Int) < 7; decide)
      · exact .inr (by show (5 : Int) < 8; decide)
    · rw [mcD6 hm e]
      split
      · exact .inr h5
      · exact .inr (by show (5 : Int) < 8; decide)
    · rw [mcD7 hm e]
      split
      · exact .inl rfl
      · exact .inr (by show (5 : Int) < 6; decide)
    · rw [mcD8 hm e]
      split
      · exact .inl rfl
      · exact .inr h5
  · unfold mcDrop
    rw [if_neg hm]
    exact .inr h5
theorem nodup_few : ∀ (N : Nat) (q : List Nat), q.Nodup → (∀ t, t ∈ q → t < N) → q.length ≤ N
  | 0, q, _, h => by
    cases q with
    | nil => exact Nat.le_refl _
    | cons a r => exact absurd (h a (by simp)) (by omega)
  | N + 1, q, hn, h => by
    by_cases hm : N ∈ q
    · have h1 := nodup_few N (q.erase N) (hn.erase N) fun t ht => by
        have h2 := h t (List.mem_of_mem_erase ht)
        have h3 : t ≠ N := fun e => (hn.not_mem_erase) (e ▸ ht)
        omega
      rw [List.length_erase_of_mem hm] at h1
      omega
    · have h1 := nodup_few N q hn fun t ht => by
        have h2 := h t ht
        have h3 : t ≠ N := fun e => hm (e ▸ ht)
        omega
      omega
theorem lens_few {R : Nat} {s : MS} {hs : Nat → HD} {n : Nat → Nat} {q sw hd : List Nat} (h : SI R s hs n q sw hd) (hR : R ≤ 3) : sw.length ≤ 100 ∧ hd.length ≤ 100 := by
  have h1 := h.pi.cnt
  have hs4 : sumN n ≤ 12 := by
    have a0 := h.pi.le 0 (by omega)
    have a1 := h.pi.le 1 (by omega)
    have a2 := h.pi.le 2 (by omega)
    have a3 := h.pi.le 3 (by omega)
    unfold sumN; omega
  have hql : q.length ≤ 4 := nodup_few 4 q h.pi.qi.nd h.pi.qi.lt
  have hb : busy (VS.of s hs) q ≤ 1 := by
    unfold busy
    split
    · omega
    · split <;> omega
  have hl := h.pi.lst
  have hd4 : hd.length ≤ 13 := by omega
  refine ⟨?_, by omega⟩
  cases q with
  | nil => have : sw = hd := hl; rw [this]; omega
  | cons b r =>
    have hl' : (if 5 < (hs b).s then sw = hd ++ r else sw = hd ++ b :: r) := hl
    simp only [List.length_cons] at hql
    split at hl' <;> rw [hl'] <;> simp <;> omega

/-- What play comes to. -/
def Played (R B b : Nat) (vw : Value) (w : World) (e : Ending) (w' : World) : Prop :=
  ∃ va vd s' hd, e = .returned (.tuple #[va, vd, .bool true]) ∧ hd.length = 4 * R ∧ IL w' w.heap.size va hd ∧ IL w' w.heap.size vd hd ∧ Mem w' B b vw s' ∧ s'.zs.length = 48 ∧ s'.zs.getD 4 0 = 0 ∧ Wrote (MemS b vw) w w'

/-- Behind a step: the two arrays are as the hands are. -/
theorem os_next {hs : Nat → HD} {os : Nat → Bool} (h : ∀ t, t < 4 → os t = decide (5 < (hs t).s)) {k : Nat} {g : HD} {B : Bool} (hB : B = decide (5 < g.s)) : ∀ t, t < 4 → updV os k B t = decide (5 < (upd hs k g t).s) := fun t ht => by
  by_cases e : t = k
  · rw [e, updV_at, upd_at, hB]
  · rw [updV_ne e, upd_ne e]; exact h t ht
theorem os_same {hs : Nat → HD} {os : Nat → Bool} (h : ∀ t, t < 4 → os t = decide (5 < (hs t).s)) {k : Nat} (hk : k < 4) {g : HD} (hB : decide (5 < (hs k).s) = decide (5 < g.s)) : ∀ t, t < 4 → os t = decide (5 < (upd hs k g t).s) := fun t ht => by
  by_cases e : t = k
  · rw [e, upd_at, h k hk, hB]
  · rw [upd_ne e]; exact h t ht

set_option maxRecDepth 100000 in
set_option maxHeartbeats 8000000 in
theorem play_any (R : Nat) (hR0 : 0 < R) (hR : R ≤ 3) (a0 : Option Addr) (len0 cap0 : Nat) (zs0 : List Int) (w : World) (B b : Nat) (vw : Value) (hm : Mem w B b vw (MS.new (zrow 48))) (hr0 : IntRow w a0 len0 zs0) (hl0 : len0 ≤ 200) (hfar : ∀ x, a0 = some x → 0 < len0 → ¬ MemS b vw x.block) :
    Calls Try.prog 28 #[.pointer (some ⟨b, 0, none⟩), mp4.v, .slice a0 len0 cap0, .int .i64 R] w (Played R B b vw w) := by
  have HR0 := hid hr0
  have HFAR := hid hfar
  have HM := hid hm
  clear hr0 hfar hm
  show Calls _ _ #[_, .agg #[.int .i64 2, .int .i64 2, .int .i64 4, .int .i64 0, .int .i64 2], _, _] _ _
  go_enter Try.func28, Try.ntmps28
  go_upto_region 5 with fail
  refine wp_rename (fun W' => PlAt w w.heap.size (w.heap.size + 1) (w.heap.size + 1 + 1) (w.heap.size + 1 + 1 + 1) B b vw (MS.new (zrow 48)) (fun _ => h0) (fun _ => 0) (fun _ => false) (.slice none 0 0) (.slice none 0 0) [] [] W') ?_ ?_
  · have h0 := MapAt.new 27 w mp4
    have h1 := FourAt.new (w.alloc (.cells mp4.cells 27))
    rw [size_alloc1] at h1
    have h2 := FourV.new (T := 92) ((w.alloc (.cells mp4.cells 27)).alloc (.cells four0 51)) (.int .i64 0)
    rw [size_alloc2] at h2
    have h3 := FourV.new (T := 52) (((w.alloc (.cells mp4.cells 27)).alloc (.cells four0 51)).alloc (.cells #[.int .i64 0, .int .i64 0, .int .i64 0, .int .i64 0] 92)) (.bool false)
    rw [size_alloc3] at h3
    have hbb := bnew (bnew (bnew (bnew (bid w) (.cells mp4.cells 27)) (.cells four0 51)) (.cells #[.int .i64 0, .int .i64 0, .int .i64 0, .int .i64 0] 92)) (.cells #[.bool false, .bool false, .bool false, .bool false] 52)
    refine ⟨((h0.alloc _).alloc _).alloc _, HM.out.kept (Wrote.of_below hbb (fun _ => False)) (fun _ _ h => h), h1.below (bnew (bnew (bid _) _) _), h2.below (bnew (bid _) _), h3, IL.nil _ _, IL.nil _ _, HM.out.hold, ?_, ⟨by omega, by omega, by omega, by omega⟩, Wrote.of_below hbb _⟩
    refine ⟨fun j => j - w.heap.size, ?_, ?_, ?_, ?_, fun j hj => (by cases hj), fun j hj => (by cases hj)⟩
    · show w.heap.size - w.heap.size = 0
      omega
    · show w.heap.size + 1 - w.heap.size = 1
      omega
    · show w.heap.size + 1 + 1 - w.heap.size = 2
      omega
    · show w.heap.size + 1 + 1 + 1 - w.heap.size = 3
      omega
  generalize w.heap.size + 1 + 1 + 1 = qo
  generalize w.heap.size + 1 + 1 = qn
  generalize w.heap.size + 1 = qh
  generalize hq : w.heap.size = q
  clear HM
  intro W3 hk
  have HK := hid hk
  have HQ := hid hq
  clear hk hq
  go_wp2_with fail
  go_loopw [16] (fun i W => ∃ k : Nat, k ≤ 4 ∧ i = .int .i64 k ∧ PlAt w q qh qn qo B b vw (MS.new (zrow 48)) (firstM 0 k) (fun _ => 0) (fun _ => false) (.slice none 0 0) (.slice none 0 0) [] [] W) (fun i _ => 4 - (intOf i).toNat)
  case atStart => exact ⟨0, by omega, rfl, by rw [firstM_zero]; exact HK.out⟩
  case round =>
    clear HK
    obtain ⟨k, hk, rfl, hr⟩ := hrel
    have HK := hid hr
    clear hr
    by_cases hlt : k < 4
    · have i1 : (0 : Int) ≤ (k : Int) := by omega
      have i2 : (k : Int) < 4 := by omega
      obtain ⟨e0, e1, e2, e3, e4, ef⟩ := HK.out.hh.facts hlt
      go_upto_region 7 with fail
      refine wp_rename (fun W => PlAt w q qh qn qo B b vw (MS.new (zrow 48)) (firstM 0 (k + 1)) (fun _ => 0) (fun _ => false) (.slice none 0 0) (.slice none 0 0) [] [] W) (by have h := HK.out.setH hlt ⟨k, 0, 0, false, 0⟩; rw [firstM_succ] at h; exact h) ?_
      clear e0 e1 e2 e3 e4 ef HK
      intro W5 hk5
      have HK := hid hk5
      clear hk5
      go_wp2_with fail
      go_roundw
      case rel => exact ⟨k + 1, by omega, by go_num, HK.out⟩
      case measure => simp [intOf]; omega
    · obtain rfl : k = 4 := by omega
      go_wp2_with fail
      have HN0 := hid (show PlRel w q qh qn qo B b vw R len0 (.slice none 0 0) (.slice none 0 0) (.int .i64 0) wr from
        ⟨0, _, _, _, _, [], [], [], by omega, rfl, SI.start R hR0, fun t ht => by rw [if_pos ht]; rfl, .inl (by omega), ⟨by decide, by decide⟩, HK.out⟩)
      clear HK hlt hk
      go_loopw [14, 15, 17] (fun va vd i W => PlRel w q qh qn qo B b vw R len0 va vd i W) (fun _ _ i _ => len0 + 400 - (intOf i).toNat)
      case atStart => exact HN0.out
      case round =>
        clear HN0
        obtain ⟨j, s, hs, n, os, qq, sw, hd, hj, rfl, hS, hos, hpot, hsteps, hP⟩ := hrel
        have HS := hid hS
        have HOS := hid hos
        have HPOT := hid hpot
        have HK := hid hP
        clear hS hos hpot hP
        generalize u14 = va at *
        generalize u15 = vd at *
        have hj1 : ((j : Nat) : Int) + 1 ≤ 100000 := by omega
        have r1 : IntKind.i64.wrap ((len0 : Int) + 400) = ((len0 + 400 : Nat) : Int) := by rw [IntKind.wrap_i64]; omega
        have r2 : IntKind.i64.wrap ((j : Int) + 1) = ((j + 1 : Nat) : Int) := by rw [IntKind.wrap_i64]; omega
        have r3 : (j : Int).tmod 4 = ((j % 4 : Nat) : Int) := by rw [Int.tmod_eq_emod_of_nonneg (by omega)]; omega
        have r4 : IntKind.i64.wrap ((j % 4 : Nat) : Int) = ((j % 4 : Nat) : Int) := by rw [IntKind.wrap_i64]; omega
        have r5 : wrap64 ((j % 4 : Nat) : Int) = ((j % 4 : Nat) : Int) := by rw [wrap_small (by omega) (by omega)]
        have HJ := hid hsteps
        clear hsteps
        generalize hn40 : len0 + 400 = n40 at r1
        by_cases hlt : j < n40
        · go_upto_if 43 with fail
          go_cut [18] (fun v W => (∃ k : Nat, k < 4 ∧ v = .int .i64 k ∧ (j % 4 = k ∨ j < len0)) ∧ W = wr)
          case first =>
            clear r1 r2 r3 r4 r5 hn40 hlt hj1
            by_cases hl : j < len0
            · obtain ⟨g, off, rfl, _, hc⟩ := (HR0.out.kept HK.out.wrote fun x h1 h2 => HFAR.out x h1 h2).at (by omega)
              have c0 := hc j hl
              generalize zs0.getD j 0 = z at c0
              clear hc
              have i1 : (0 : Int) ≤ (j : Int) := by omega
              have i2 : (j : Int) < (len0 : Int) := by omega
              obtain ⟨k, hk4, hkk⟩ := pick_of4 z
              go_wp2_with fail
              go_meet
              case rel => exact ⟨⟨k, hk4, by rw [hkk], .inr hl⟩, rfl⟩
            · go_wp2_with fail
              go_meet
              case rel => exact ⟨⟨j % 4, by omega, by simp, .inl rfl⟩, rfl⟩
          case rest =>
            obtain ⟨⟨k, hk4, rfl, hown⟩, rfl⟩ := hcut
            have HOWN := hid hown
            have HLT := hid hlt
            have HN40 := hid hn40
            have HJB := hid hj
            clear hown r1 r3 r4 r5 hlt hj hn40
            have k1 : (0 : Int) ≤ (k : Int) := by omega
            have k2 : (k : Int) < 4 := by omega
            obtain ⟨p0, pf⟩ := HK.out.nn.facts hk4
            by_cases hnR : n k = R
            · have hnRi : ((n k : Nat) : Int) = (R : Int) := by rw [hnR]
              rw [hnRi] at p0
              clear hnRi
              go_wp2_with fail
              go_roundw
              case rel => exact ⟨j + 1, s, hs, n, os, qq, sw, hd, by have := HLT.out; have := HN40.out; omega, by go_num, HS.out, HOS.out, HPOT.out.skip HS.out.pi hR hk4 HOWN.out hnR, by have := HJ.out; omega, HK.out⟩
              case measure => have h1 := HLT.out; have h2 := HN40.out; simp [intOf]; omega
            · have hnl : n k < R := by have := HS.out.pi.le k hk4; omega
              have HNL := hid hnl
              have hnRb : (((n k : Nat) : Int) == (R : Int)) = false := by simp; omega
              clear hnR hnl
              obtain ⟨st0, hst0⟩ : ∃ st0, s.steps = st0 := ⟨_, rfl⟩
              have HST0 := hid hst0
              clear hst0
              go_upto_region 17 with (go_at_call 34; (with_reducible refine (Steps_any _ _ _ _ _ HK.out.mem).mono ?_); rw [HST0.out]; rintro e w6 ⟨rfl, rfl⟩)
              clear p0 pf hnRb
              obtain ⟨p0, pf⟩ := HK.out.oo.facts hk4
              rw [HOS.out k hk4] at p0
              have HSJ := hid (show 0 ≤ st0 ∧ st0 ≤ (j : Int) from by have h1 := HJ.out; have h2 := HST0.out; omega)
              have HBD := hid (show 0 ≤ st0 ∧ st0 ≤ 100000 from by have h1 := HJ.out; have h2 := HST0.out; omega)
              go_upto_if 60 with fail
              go_cut [14, 15] (fun va vd W => PlMid w q qh qn qo B b vw R len0 j st0 va vd W)
              case first =>
                by_cases h5 : 5 < (hs k).s
                · have hdd : decide (5 < (hs k).s) = true := decide_eq_true h5
                  rw [hdd] at p0 ⊢
                  have HDR := hid (fun (x : World) (hm : Mem x B b vw s) => mDrop_any mp4 (hs k) x _ b vw s hm (by rw [mp4_size, HS.out.len]; decide))
                  have HTO := hid (HS.out.drop hk4 h5)
                  have HGD := hid (mcDrop_kind mp4 s (hs k) h5 (HS.out.range hk4).2)
                  have H5 := hid h5
                  clear h5 hdd
                  go_upto_region 18 with fail
                  clear p0 pf
                  have hne1 : Nonempty (Sat (fun W => ∃ s, PlAt w q qh qn qo B b vw s hs n os va vd sw hd W)) := ⟨⟨_, _, HK.out⟩⟩
                  have hne2 : Nonempty (Sat (fun _ => True)) := ⟨⟨w, trivial⟩⟩
                  have hcells := fun (x : Sat (fun W => ∃ s, PlAt w q qh qn qo B b vw s hs n os va vd sw hd W)) => PlAt.satCells x hk4
                  have y0 := fun x => (hcells x).1
                  have y1 := fun x => (hcells x).2.1
                  have y2 := fun x => (hcells x).2.2.1
                  have y3 := fun x => (hcells x).2.2.2.1
                  have y4 := fun x => (hcells x).2.2.2.2.1
                  have y5 := fun x => (hcells x).2.2.2.2.2.1
                  have y6 := fun x => (hcells x).2.2.2.2.2.2.1
                  have y7 := fun x => (hcells x).2.2.2.2.2.2.2.1
                  have y8 := fun x => (hcells x).2.2.2.2.2.2.2.2.1
                  have y9 := fun x => (hcells x).2.2.2.2.2.2.2.2.2
                  clear hcells
                  refine wp_region_staged (PlD w q qh qn qo B b vw s (mcDrop mp4 s (hs k)).2 hs k (mcDrop mp4 s (hs k)).1 n os va vd sw hd) (by kernel_rfl) (by kernel_rfl) (fun L hL => PlD.start hL HK.out) ?_
                  refine wpS_plain (fun _ => True) (fun _ _ _ _ _ => trivial) (fun _ _ h => h) rfl rfl ?_
                  intro KK hKK
                  go_big_quiet_op
                  go_big_quiet_on
                  refine wpS_plain (fun W => ∃ s, PlAt w q qh qn qo B b vw s hs n os va vd sw hd W) (fun L W hL hcl hd => by have h := hcl.no hL (j := 6) (by kernel_rfl); have h8 := hcl.no h (j := 8) (by kernel_rfl); exact PlD.reads hd h8) (fun _ _ h => h) rfl rfl ?_
                  intro KK hKK
                  go_big_quiet_op
                  go_big_quiet_on
                  refine wpS_plain (fun _ => True) (fun _ _ _ _ _ => trivial) (fun _ _ h => h) rfl rfl ?_
                  intro KK hKK
                  go_big_quiet_op
                  go_big_quiet_on
                  refine wpS_plain (fun _ => True) (fun _ _ _ _ _ => trivial) (fun _ _ h => h) rfl rfl ?_
                  intro KK hKK
                  go_big_quiet_op
                  go_big_quiet_on
                  refine wpS_plain (fun _ => True) (fun _ _ _ _ _ => trivial) (fun _ _ h => h) rfl rfl ?_
                  intro KK hKK
                  go_big_quiet_op
                  go_big_quiet_on
                  refine wpS_plain (fun W => ∃ s, PlAt w q qh qn qo B b vw s hs n os va vd sw hd W) (fun L W hL hcl hd => by have h := hcl.no hL (j := 6) (by kernel_rfl); have h8 := hcl.no h (j := 8) (by kernel_rfl); exact PlD.reads hd h8) (fun _ _ h => h) rfl rfl ?_
                  intro KK hKK
                  go_big_quiet_op
                  go_big_quiet_on
                  refine wpS_call 17 #[(PM.v mp4), .pointer (some ⟨b, 0, none⟩), (hs k).v] (mcDrop mp4 s (hs k)).1.v rfl (fun _ => by go_simp) ?_ ?_
                  · intro L W hL hcl hd
                    have hd1 := PlD.at6 hd hL
                    refine (HDR.out _ hd1.mem).mono ?_
                    rintro e w'' ⟨rfl, hm, hw⟩
                    exact ⟨rfl, hd1.one hm hw⟩
                  (try simp only [Act.put, List.getElem_toArray, List.getElem_cons_zero, List.getElem_cons_succ, List.setIfInBounds_toArray, List.set_cons_zero, List.set_cons_succ])
                  refine wpS_plain (fun _ => True) (fun _ _ _ _ _ => trivial) (fun _ _ h => h) rfl rfl ?_
                  intro KK hKK
                  go_big_quiet_op
                  go_big_quiet_on
                  refine wpS_store rfl ?_ ?_
                  · intro L W hL hcl hd
                    have hd1 := PlD.at8 hd hL
                    obtain ⟨e0, e1, e2, e3, e4, ef⟩ := hd1.hh.facts hk4
                    exact ⟨_, by go_simp, hd1.setH hk4 (mcDrop mp4 s (hs k)).1⟩
                  (try simp only [Act.put, List.getElem_toArray, List.getElem_cons_zero, List.getElem_cons_succ, List.setIfInBounds_toArray, List.set_cons_zero, List.set_cons_succ])
                  intro L W hall hd0
                  have HK9 := hid (PlD.end_ hall hd0)
                  clear hd0 hall y0 y1 y2 y3 y4 y5 y6 y7 y8 y9 hne1 hne2 HK HDR
                  have hto := HTO.out
                  unfold DropTo at hto
                  clear HTO
                  generalize (mcDrop mp4 s (hs k)).1 = g at *
                  generalize (mcDrop mp4 s (hs k)).2 = s2 at *
                  obtain ⟨q2, hS2, hC2, hst2⟩ := hto
                  have HS2 := hid hS2
                  have HC2 := hid hC2
                  have HST2 := hid (show s2.steps = st0 + 1 from by rw [hst2, HST0.out]; exact wrap_small (by have := HBD.out; omega) (by have := HBD.out; omega))
                  clear hS2 hC2 hst2
                  obtain ⟨_, _, e2, _, _, ef⟩ := HK9.out.hh.facts hk4
                  rw [upd_at] at e2
                  obtain ⟨p0, pf⟩ := HK9.out.oo.facts hk4
                  obtain ⟨n0, nf⟩ := HK9.out.nn.facts hk4
                  by_cases hg0 : g.s = 0
                  · rw [hg0] at e2
                    have HMID := hid (fun (W' : World) (hp : PlAt w q qh qn qo B b vw s2 (upd hs k g) (updV n k (n k + 1)) (updV os k false) va vd sw hd W') => (show PlMid w q qh qn qo B b vw R len0 j st0 va vd W' from
                      ⟨s2, upd hs k g, updV n k (n k + 1), updV os k false, q2, sw, hd, by have := HS2.out; rwa [if_pos hg0] at this, os_next HOS.out (by rw [hg0]; rfl), HPOT.out.step HS.out.pi (by have := HS2.out.pi; rwa [if_pos hg0] at this) hR HOWN.out (by have := HC2.out; rwa [if_pos hg0] at this) (fun e => by have := remN_none e hk4; have := HNL.out; omega), HST2.out, hp⟩))
                    go_upto_region 21 with fail
                    refine wp_rename _ (HK9.out.setO hk4 false) ?_
                    clear p0 pf n0 nf e2 ef HK9
                    intro W7 hk7
                    have HK9 := hid hk7
                    clear hk7
                    obtain ⟨n0, nf⟩ := HK9.out.nn.facts hk4
                    have nb : ((n k : Nat) : Int) < 3 := by have := HNL.out; omega
                    go_wp2_with fail
                    go_meet
                    case rel => exact HMID.out _ (HK9.out.setN hk4 (n k + 1) _ (by omega))
                  · have hgb : (g.s == 0) = false := by simp [hg0]
                    have HMID := hid (show PlMid w q qh qn qo B b vw R len0 j st0 va vd W from
                      ⟨s2, upd hs k g, n, os, q2, sw, hd, by have := HS2.out; rwa [if_neg hg0] at this, os_same HOS.out hk4 (by
                        have hp5 : 5 < g.s := by have := HGD.out; omega
                        rw [decide_eq_true H5.out, decide_eq_true hp5]), HPOT.out.step HS.out.pi (by have := HS2.out.pi; rwa [if_neg hg0] at this) hR HOWN.out (by have := HC2.out; rwa [if_neg hg0] at this) id, HST2.out, HK9.out⟩)
                    go_wp2_with fail
                    go_meet
                    case rel => exact HMID.out
                · have hdd : decide (5 < (hs k).s) = false := decide_eq_false h5
                  rw [hdd] at p0 ⊢
                  have HTK := hid (fun (x : World) (hm : Mem x B b vw s) => mTake_any mp4 (hs k) x _ b vw s hm (by rw [mp4_size, HS.out.len]; decide))
                  have HTO := hid (HS.out.take hk4 (by omega) HNL.out)
                  have HGT := hid (mcTake_kind mp4 s (hs k) (by omega) (HS.out.range hk4).1)
                  have H5 := hid h5
                  have HDD := hid hdd
                  clear h5 hdd
                  go_upto_region 22 with fail
                  clear p0 pf
                  have hne1 : Nonempty (Sat (fun W => ∃ s, PlAt w q qh qn qo B b vw s hs n os va vd sw hd W)) := ⟨⟨_, _, HK.out⟩⟩
                  have hne2 : Nonempty (Sat (fun _ => True)) := ⟨⟨w, trivial⟩⟩
                  have hcells := fun (x : Sat (fun W => ∃ s, PlAt w q qh qn qo B b vw s hs n os va vd sw hd W)) => PlAt.satCells x hk4
                  have y0 := fun x => (hcells x).1
                  have y1 := fun x => (hcells x).2.1
                  have y2 := fun x => (hcells x).2.2.1
                  have y3 := fun x => (hcells x).2.2.2.1
                  have y4 := fun x => (hcells x).2.2.2.2.1
                  have y5 := fun x => (hcells x).2.2.2.2.2.1
                  have y6 := fun x => (hcells x).2.2.2.2.2.2.1
                  have y7 := fun x => (hcells x).2.2.2.2.2.2.2.1
                  have y8 := fun x => (hcells x).2.2.2.2.2.2.2.2.1
                  have y9 := fun x => (hcells x).2.2.2.2.2.2.2.2.2
                  clear hcells
                  refine wp_region_staged (PlD w q qh qn qo B b vw s (mcTake mp4 s (hs k)).2 hs k (mcTake mp4 s (hs k)).1 n os va vd sw hd) (by kernel_rfl) (by kernel_rfl) (fun L hL => PlD.start hL HK.out) ?_
                  refine wpS_plain (fun _ => True) (fun _ _ _ _ _ => trivial) (fun _ _ h => h) rfl rfl ?_
                  intro KK hKK
                  go_big_quiet_op
                  go_big_quiet_on
                  refine wpS_plain (fun W => ∃ s, PlAt w q qh qn qo B b vw s hs n os va vd sw hd W) (fun L W hL hcl hd => by have h := hcl.no hL (j := 6) (by kernel_rfl); have h8 := hcl.no h (j := 8) (by kernel_rfl); exact PlD.reads hd h8) (fun _ _ h => h) rfl rfl ?_
                  intro KK hKK
                  go_big_quiet_op
                  go_big_quiet_on
                  refine wpS_plain (fun _ => True) (fun _ _ _ _ _ => trivial) (fun _ _ h => h) rfl rfl ?_
                  intro KK hKK
                  go_big_quiet_op
                  go_big_quiet_on
                  refine wpS_plain (fun _ => True) (fun _ _ _ _ _ => trivial) (fun _ _ h => h) rfl rfl ?_
                  intro KK hKK
                  go_big_quiet_op
                  go_big_quiet_on
                  refine wpS_plain (fun _ => True) (fun _ _ _ _ _ => trivial) (fun _ _ h => h) rfl rfl ?_
                  intro KK hKK
                  go_big_quiet_op
                  go_big_quiet_on
                  refine wpS_plain (fun W => ∃ s, PlAt w q qh qn qo B b vw s hs n os va vd sw hd W) (fun L W hL hcl hd => by have h := hcl.no hL (j := 6) (by kernel_rfl); have h8 := hcl.no h (j := 8) (by kernel_rfl); exact PlD.reads hd h8) (fun _ _ h => h) rfl rfl ?_
                  intro KK hKK
                  go_big_quiet_op
                  go_big_quiet_on
                  refine wpS_call 19 #[(PM.v mp4), .pointer (some ⟨b, 0, none⟩), (hs k).v] (mcTake mp4 s (hs k)).1.v rfl (fun _ => by go_simp) ?_ ?_
                  · intro L W hL hcl hd
                    have hd1 := PlD.at6 hd hL
                    refine (HTK.out _ hd1.mem).mono ?_
                    rintro e w'' ⟨rfl, hm, hw⟩
                    exact ⟨rfl, hd1.one hm hw⟩
                  (try simp only [Act.put, List.getElem_toArray, List.getElem_cons_zero, List.getElem_cons_succ, List.setIfInBounds_toArray, List.set_cons_zero, List.set_cons_succ])
                  refine wpS_plain (fun _ => True) (fun _ _ _ _ _ => trivial) (fun _ _ h => h) rfl rfl ?_
                  intro KK hKK
                  go_big_quiet_op
                  go_big_quiet_on
                  refine wpS_store rfl ?_ ?_
                  · intro L W hL hcl hd
                    have hd1 := PlD.at8 hd hL
                    obtain ⟨e0, e1, e2, e3, e4, ef⟩ := hd1.hh.facts hk4
                    exact ⟨_, by go_simp, hd1.setH hk4 (mcTake mp4 s (hs k)).1⟩
                  (try simp only [Act.put, List.getElem_toArray, List.getElem_cons_zero, List.getElem_cons_succ, List.setIfInBounds_toArray, List.set_cons_zero, List.set_cons_succ])
                  intro L W hall hd0
                  have HK9 := hid (PlD.end_ hall hd0)
                  clear hd0 hall y0 y1 y2 y3 y4 y5 y6 y7 y8 y9 hne1 hne2 HK HTK
                  have hto := HTO.out
                  unfold TakeTo at hto
                  clear HTO
                  generalize (mcTake mp4 s (hs k)).1 = g at *
                  generalize (mcTake mp4 s (hs k)).2 = s2 at *
                  obtain ⟨q2, hS2, hC2, hst2⟩ := hto
                  have HS2 := hid hS2
                  have HC2 := hid hC2
                  have HST2 := hid (show s2.steps = st0 + 1 from by rw [hst2, HST0.out]; exact wrap_small (by have := HBD.out; omega) (by have := HBD.out; omega))
                  have HLN := hid (lens_few HS.out hR)
                  clear hS2 hC2 hst2
                  -- the last access is asked for
                  have HPT := hid (HPOT.out.step HS.out.pi HS2.out.pi hR HOWN.out HC2.out id)
                  have HSI := hid HS2.out
                  obtain ⟨zs2, sp2, kd2, at2, vl2, sw2, dn2⟩ := s2
                  have hsp : sp2 = st0 + 1 := HST2.out
                  subst hsp
                  have hb1 : decide (st0 < st0 + 1) = true := decide_eq_true (by omega)
                  go_upto_region 24 with (go_at_call 31; (with_reducible refine (Last_any _ _ _ _ _ HK9.out.mem).mono ?_); rintro e w7 ⟨rfl, hb7⟩; have HK9 := hid (HK9.out.later hb7); clear hb7)
                  refine wp_rename (fun W' => PlAt w q qh qn qo B b vw ⟨zs2, st0 + 1, kd2, at2, vl2, sw2, dn2⟩ (upd hs k g) n os va vd sw hd W' ∧ W'.cell? ⟨w7.heap.size, 0, none⟩ = some (.int .i64 kd2) ∧ W'.cell? ⟨w7.heap.size, 4, none⟩ = some (.bool dn2)) ⟨HK9.out.later (bnew (bid _) _), cell_of_blk (heap_alloc_new w7 _) 0, cell_of_blk (heap_alloc_new w7 _) 4⟩ ?_
                  generalize w7.heap.size = qx
                  clear HK9
                  rintro W8 ⟨hk8, cx0, cx4⟩
                  have HK9 := hid hk8
                  clear hk8
                  go_upto_region 24 with fail
                  go_cut [103] (fun v W => (∃ sB : Bool, v = .bool sB ∧ (sB = true ↔ kd2 = 3 ∧ dn2 = true)) ∧ PlAt w q qh qn qo B b vw ⟨zs2, st0 + 1, kd2, at2, vl2, sw2, dn2⟩ (upd hs k g) n os va vd sw hd W)
                  case first =>
                    have HS9 := hid (Steps_any W8 B b vw _ HK9.out.mem)
                    by_cases hk3 : kd2 = 3
                    · subst hk3
                      cases dn2
                      · go_wp2_with (go_at_call 34; (with_reducible refine HS9.out.mono ?_); rintro e w6 ⟨rfl, rfl⟩)
                        go_meet
                        case rel => exact ⟨⟨false, rfl, by simp⟩, HK9.out⟩
                      · go_wp2_with (go_at_call 34; (with_reducible refine HS9.out.mono ?_); rintro e w6 ⟨rfl, rfl⟩)
                        go_meet
                        case rel => exact ⟨⟨true, rfl, by simp⟩, HK9.out⟩
                    · have hk3b : (kd2 == 3) = false := by simp [hk3]
                      go_wp2_with (go_at_call 34; (with_reducible refine HS9.out.mono ?_); rintro e w6 ⟨rfl, rfl⟩)
                      go_meet
                      case rel => exact ⟨⟨false, rfl, by simp [hk3]⟩, HK9.out⟩
                  case rest =>
                  clear HK9 cx0 cx4 hb1
                  obtain ⟨⟨sB, rfl, hsB⟩, hk9⟩ := hcut
                  have HK9 := hid hk9
                  have HSB := hid hsB
                  clear hk9 hsB
                  go_upto_if 103 with fail
                  go_cut [14] (fun v W => PlAt w q qh qn qo B b vw ⟨zs2, st0 + 1, kd2, at2, vl2, sw2, dn2⟩ (upd hs k g) n os v vd (if kd2 = 3 ∧ dn2 = true then sw ++ [k] else sw) hd W)
                  case first =>
                    cases hbB : sB
                    · rw [hbB] at HSB
                      go_wp2_with fail
                      go_meet
                      case rel => rw [if_neg (fun e => by have := HSB.out.2 e; cases this)]; exact HK9.out
                    · rw [hbB] at HSB
                      have HC := hid (fun (x : World) (hb : Below wc.heap.size wc x) => (HK9.out.later hb))
                      have HWS := hid HK9.out.wrote.size
                      have HB4 := hid (bnew (bid wc) (.cells #[.int .i64 (k : Int)] 3))
                      have HA4 := hid (show ∀ j, j < 1 → (wc.alloc (.cells #[.int .i64 (k : Int)] 3)).cell? (Addr.add ⟨wc.heap.size, 0, none⟩ j) = some (.int .i64 (([k] : List Nat).getD j 0 : Nat)) from fun j hj => by
                        obtain rfl : j = 0 := by omega
                        rw [add_at]
                        exact (cell_of_blk (heap_alloc_new wc _) 0).trans rfl)
                      go_wp2_with (at_builtin; go_must (refine wpList_append_il (v := va) rfl (.tmp 104) (.tmp 106) rfl rfl (HC.out _ HB4.out).sws [k] rfl HA4.out rfl (by have := HLN.out; simp; omega) (Nat.le_trans HWS.out HB4.out.size) ?_; intro v9 w9 hil hwr how hnn; have HK5 := hid ((HC.out _ HB4.out).swUp hil hwr how (Nat.le_refl _)); clear hil hwr how hnn))
                      go_meet
                      case rel => rw [if_pos (HSB.out.1 (by simp))]; exact HK5.out
                  case rest =>
                    clear HK9
                    have HK9 := hid hcut
                    clear hcut
                    have hlen9 : (if kd2 = 3 ∧ dn2 = true then sw ++ [k] else sw).length ≤ 200 := by
                      have := HLN.out
                      split <;> simp <;> omega
                    generalize (if kd2 = 3 ∧ dn2 = true then sw ++ [k] else sw) = swN at *
                    obtain ⟨_, _, e2, _, _, ef⟩ := HK9.out.hh.facts hk4
                    rw [upd_at] at e2
                    obtain ⟨p0, pf⟩ := HK9.out.oo.facts hk4
                    by_cases hg9 : g.s = 9
                    · rw [hg9] at e2
                      have HMID := hid (fun (v' : Value) (W' : World) (hp : PlAt w q qh qn qo B b vw ⟨zs2, st0 + 1, kd2, at2, vl2, sw2, dn2⟩ (upd hs k g) n (updV os k true) u14 v' swN (hd ++ [k]) W') => (show PlMid w q qh qn qo B b vw R len0 j st0 u14 v' W' from
                        ⟨_, upd hs k g, n, updV os k true, q2, swN, hd ++ [k], by have := HSI.out; rwa [if_pos hg9] at this, os_next HOS.out (by rw [hg9]; rfl), HPT.out, rfl, hp⟩))
                      have HC := hid (fun (x : World) (hb : Below wc.heap.size wc x) => (HK9.out.later hb))
                      have HWS := hid HK9.out.wrote.size
                      have HB4 := hid (bnew (bid wc) (.cells #[.int .i64 (k : Int)] 3))
                      have HA4 := hid (show ∀ j, j < 1 → (wc.alloc (.cells #[.int .i64 (k : Int)] 3)).cell? (Addr.add ⟨wc.heap.size, 0, none⟩ j) = some (.int .i64 (([k] : List Nat).getD j 0 : Nat)) from fun j hj => by
                        obtain rfl : j = 0 := by omega
                        rw [add_at]
                        exact (cell_of_blk (heap_alloc_new wc _) 0).trans rfl)
                      go_upto_region 28 with (at_builtin; go_must (refine wpList_append_il (v := vd) rfl (.tmp 113) (.tmp 115) rfl rfl (HC.out _ HB4.out).hds [k] rfl HA4.out rfl (by have := HLN.out; simp; omega) (Nat.le_trans HWS.out HB4.out.size) ?_; intro v9 w9 hil hwr how hnn; have HK5 := hid ((HC.out _ HB4.out).hdUp hil hwr how (Nat.le_refl _)); clear hil hwr how hnn))
                      clear p0 pf e2 ef
                      obtain ⟨p0, pf⟩ := HK5.out.oo.facts hk4
                      go_wp2_with fail
                      go_meet
                      case rel => exact HMID.out _ _ (HK5.out.setO hk4 true)
                    · have hgb : (g.s == 9) = false := by simp [hg9]
                      have HMID := hid (show PlMid w q qh qn qo B b vw R len0 j st0 u14 vd wc from
                        ⟨_, upd hs k g, n, os, q2, swN, hd, by have := HSI.out; rwa [if_neg hg9] at this, os_same HOS.out hk4 (by rw [HDD.out, decide_eq_false (by have := HGT.out; omega)]), HPT.out, rfl, HK9.out⟩)
                      go_wp2_with fail
                      go_meet
                      case rel => exact HMID.out
              case rest =>
                clear HK p0 pf HOS HPOT HS HNL HST0 HOWN
                obtain ⟨s2, hs2, n2, os2, qq2, sw2, hd2, hS2, hos2, hpot2, hst2, hP2⟩ := hcut
                have HS := hid hS2
                have HOS := hid hos2
                have HPOT := hid hpot2
                have HST := hid hst2
                have HK := hid hP2
                clear hS2 hos2 hpot2 hst2 hP2
                go_wp2_with fail
                go_loopw [21, 22] (fun h i W => ∃ m : Nat, m ≤ 4 ∧ i = .int .i64 m ∧ h = .int .i64 (heldM hs2 m) ∧ PlAt w q qh qn qo B b vw s2 hs2 n2 os2 u14 u15 sw2 hd2 W) (fun _ i _ => 4 - (intOf i).toNat)
                case atStart => exact ⟨0, by omega, rfl, rfl, HK.out⟩
                case round =>
                  clear HK
                  obtain ⟨m, hm, rfl, rfl, hR2⟩ := hrel
                  have HK := hid hR2
                  clear hR2
                  have hle := heldM_le hs2 m
                  by_cases hm4 : m < 4
                  · have n1 : (0 : Int) ≤ (m : Int) := by omega
                    have n2' : (m : Int) < 4 := by omega
                    obtain ⟨_, _, e2, _, _, ef⟩ := HK.out.hh.facts hm4
                    have HH := hid (show heldM hs2 (m + 1) = heldM hs2 m + if (hs2 m).s = 9 then 1 else 0 from rfl)
                    generalize heldM hs2 m = hdn at *
                    by_cases h9 : (hs2 m).s = 9
                    · rw [h9] at e2
                      go_wp2_with fail
                      go_roundw
                      case rel => exact ⟨m + 1, by omega, by go_num, by rw [HH.out, if_pos h9]; go_num, HK.out⟩
                      case measure => simp [intOf]; omega
                    · have h9b : ((hs2 m).s == 9) = false := by simp [h9]
                      go_wp2_with fail
                      go_roundw
                      case rel => exact ⟨m + 1, by omega, by go_num, by rw [HH.out, if_neg h9]; go_num, HK.out⟩
                      case measure => simp [intOf]; omega
                  · obtain rfl : m = 4 := by omega
                    have hone := HS.out.one
                    generalize heldM hs2 4 = hdn at *
                    have HSX := hid (show Calls Try.prog 34 #[.pointer (some ⟨b, 0, none⟩)] wr fun e w' => e = .returned (.int .i64 (st0 + 1)) ∧ wr = w' from by have := Steps_any wr B b vw s2 HK.out.mem; rwa [HST.out] at this)
                    have hb1 : decide ((1 : Int) < (hdn : Int)) = false := decide_eq_false (by omega)
                    obtain ⟨q1, q2⟩ := HBD.out
                    go_wp2_with (go_at_call 34; (with_reducible refine HSX.out.mono ?_); rintro e w6 ⟨rfl, rfl⟩)
                    go_roundw
                    case rel =>
                      repeat apply Exists.intro
                      exact ⟨⟨j + 1, s2, hs2, n2, os2, qq2, sw2, hd2, by have := HLT.out; have := HN40.out; omega, by go_num, HS.out, HOS.out, HPOT.out, by rw [HST.out]; have := HJ.out; have := HBD.out; have := HSJ.out; omega, HK.out⟩, rfl⟩
                    case measure => have h1 := HLT.out; have h2 := HN40.out; simp [intOf]; omega
        · obtain rfl : j = len0 + 400 := by omega
          have HD := hid (HS.out.pi.done (HPOT.out.done HS.out.pi))
          go_wp2_with fail
          go_ret3
          obtain ⟨_, hT, hsw, hln⟩ := HD.out
          subst hsw
          exact ⟨_, _, s, sw, rfl, hln, HK.out.sws, HK.out.hds, HK.out.mem, HS.out.len, hT, HK.out.wrote⟩

end Go.Proofs.Ytmngpgocpamfgaa
