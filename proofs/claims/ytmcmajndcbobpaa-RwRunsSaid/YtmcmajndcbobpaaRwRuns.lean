/-
  RwRuns: step by step both locks do the same.
-/
import Derived.Test.YtmcmajndcbobpaaRnAt
import Derived.Test.YtmcmajndcbobpaaRwT
import Derived.Test.YtmcmajndcbobpaaRwRT
import Derived.Test.YtmcmajndcbobpaaTold10
namespace Go.Proofs.Ytmcmajndcbobpaa
open Go.RowKit
attribute [local go_sem] Later.cell Later.frozen

set_option maxRecDepth 100000 in
set_option maxHeartbeats 8000000 in
theorem rwruns_any (a0 : Option Addr) (len0 cap0 : Nat) (zs0 : List Int) (w : World) (hr0 : IntRow w a0 len0 zs0) (hl0 : len0 ≤ maxLen) :
    Calls Try.prog 4 #[.slice a0 len0 cap0] w fun e w' => e = .returned (.bool true) ∧ Below w.heap.size w w' := by
  unfold maxLen at hl0
  have HR0 := hid hr0
  clear hr0
  by_cases hlen : 300 < len0
  · go_enter Try.func4, Try.ntmps4
    go_wp2_with (go_at_call 20; (with_reducible refine (told10_any _).mono ?_); rintro e w1 ⟨rfl, hb1⟩)
    go_ret
    exact ⟨rfl, hb1⟩
  have HBO := hid (fun (x : World) => (show Calls Try.prog 25 #[mp4.v] x (MadeBoth 48 x) from by have := Both_any mp4 x mp4_ok; rwa [mp4_size] at this))
  have HRF := hid (fun (x : World) => pRef_any mp4 x)
  go_enter Try.func4, Try.ntmps4
  go_upto_region 4 with (go_at_call 8; (with_reducible refine (Map_any _).mono ?_); rintro e w1 ⟨rfl, hb1⟩; have HB1 := hid hb1; clear hb1)
  refine wp_rename (fun W => MapAt 26 W w1.heap.size mp4 ∧ Below w.heap.size w W) ⟨MapAt.new _ w1 mp4, bnew HB1.out _⟩ ?_
  have hq0 := HB1.out.size
  generalize w1.heap.size = q at hq0 ⊢
  clear HB1
  rintro W ⟨hk, hb⟩
  have HK := hid hk
  have HB := hid hb
  obtain ⟨m0, m1, m2, m3, m4, _⟩ := hk.facts
  clear hk hb
  go_upto_region 5 with (go_at_call 10; (with_reducible refine (HRF.out _).mono ?_); rintro e w1 ⟨rfl, hb1⟩; have HB1 := hid hb1; clear hb1)
  refine wp_rename (fun W => MapAt 26 W q mp4 ∧ MapAt 29 W w1.heap.size mp4 ∧ q < w1.heap.size ∧ w.heap.size ≤ w1.heap.size ∧ Below w.heap.size w W) ⟨(HK.out.below HB1.out).alloc _, MapAt.new _ w1 mp4, Nat.lt_of_lt_of_le HK.out.lt HB1.out.size, Nat.le_trans hq0 (Nat.le_trans (Nat.le_of_lt HK.out.lt) HB1.out.size), bnew (bthen HB.out HB1.out) _⟩ ?_
  generalize w1.heap.size = qf
  clear HK HB HB1 HRF m0 m1 m2 m3 m4
  rintro W ⟨hk, hk2, hqf, hqf0, hb⟩
  have HK := hid hk
  have HK2 := hid hk2
  have HB := hid hb
  obtain ⟨m0, m1, m2, m3, m4, _⟩ := hk.facts
  clear hk hk2 hb
  go_upto_region 10 with (go_at_call 25; (with_reducible refine (HBO.out _).mono ?_); rintro e w2 ⟨b, vw, c, vr, rfl, hp, hb2⟩; have HP := hid hp; have HB2 := hid hb2; clear hp hb2)
  refine wp_rename (fun W' => RnAt w q qf w2.heap.size (w2.heap.size + 1) (w2.heap.size + 1 + 1) b vw c vr (MS.new (zrow 48)) (MS.new (zrow 48)) (fun _ => h0) (fun _ => h0) (fun _ => false) W') ?_ ?_
  · have h1 := FourAt.new w2
    have h2 := FourAt.new (w2.alloc (.cells four0 51))
    rw [size_alloc1] at h2
    have h3 := FourV.new (T := 52) ((w2.alloc (.cells four0 51)).alloc (.cells four0 51)) (.bool false)
    rw [size_alloc2] at h3
    have hq1 := HK.out.lt
    have hq1f := HK2.out.lt
    have hq2 := HB2.out.size
    have hq3 := HB.out.size
    have hbb := bnew (bnew (bnew (bid w2) (.cells four0 51)) (.cells four0 51)) (.cells #[.bool false, .bool false, .bool false, .bool false] 52)
    have hyo := HP.out.young
    have hol := HP.out.old
    have hap := HP.out.apart
    refine ⟨(HK.out.below HB2.out).below hbb, (HK2.out.below HB2.out).below hbb, ((HP.out.mono hq3).below hbb), h1.below (bnew (bnew (bid _) _) _), h2.below (bnew (bid _) _), h3, ?_, ⟨hq0, hqf0, by omega, by omega, by omega⟩, bthen (bthen HB.out HB2.out) hbb⟩
    classical
    refine ⟨fun j => if j = q then 0 else if j = qf then 1 else if j = w2.heap.size then 2 else if j = w2.heap.size + 1 then 3 else if j = w2.heap.size + 1 + 1 then 4 else if MemS b vw j then 5 else 6, ?_, ?_, ?_, ?_, ?_, fun j hj => ?_, fun j hj => ?_⟩
    · show (if q = q then 0 else _) = 0
      rw [if_pos rfl]
    · show (if qf = q then 0 else if qf = qf then 1 else _) = 1
      rw [if_neg (by omega), if_pos rfl]
    · show (if w2.heap.size = q then 0 else if w2.heap.size = qf then 1 else if w2.heap.size = w2.heap.size then 2 else _) = 2
      rw [if_neg (by omega), if_neg (by omega), if_pos rfl]
    · show (if w2.heap.size + 1 = q then 0 else if w2.heap.size + 1 = qf then 1 else if w2.heap.size + 1 = w2.heap.size then 2 else if w2.heap.size + 1 = w2.heap.size + 1 then 3 else _) = 3
      rw [if_neg (by omega), if_neg (by omega), if_neg (by omega), if_pos rfl]
    · show (if w2.heap.size + 1 + 1 = q then 0 else if w2.heap.size + 1 + 1 = qf then 1 else if w2.heap.size + 1 + 1 = w2.heap.size then 2 else if w2.heap.size + 1 + 1 = w2.heap.size + 1 then 3 else if w2.heap.size + 1 + 1 = w2.heap.size + 1 + 1 then 4 else _) = 4
      rw [if_neg (by omega), if_neg (by omega), if_neg (by omega), if_neg (by omega), if_pos rfl]
    · have g1 := hyo j (.inl hj)
      have g2 : j ≠ q := fun e => hol _ hq1 (.inl (e ▸ hj))
      have g3 : j ≠ qf := fun e => hol _ hq1f (.inl (e ▸ hj))
      show (if j = q then 0 else if j = qf then 1 else if j = w2.heap.size then 2 else if j = w2.heap.size + 1 then 3 else if j = w2.heap.size + 1 + 1 then 4 else if MemS b vw j then 5 else 6) = 5
      rw [if_neg g2, if_neg g3, if_neg (by omega), if_neg (by omega), if_neg (by omega), if_pos hj]
    · have g1 := hyo j (.inr hj)
      have g2 : j ≠ q := fun e => hol _ hq1 (.inr (e ▸ hj))
      have g3 : j ≠ qf := fun e => hol _ hq1f (.inr (e ▸ hj))
      show (if j = q then 0 else if j = qf then 1 else if j = w2.heap.size then 2 else if j = w2.heap.size + 1 then 3 else if j = w2.heap.size + 1 + 1 then 4 else if MemS b vw j then 5 else 6) = 6
      rw [if_neg g2, if_neg g3, if_neg (by omega), if_neg (by omega), if_neg (by omega), if_neg (fun h => hap j h hj)]
  generalize w2.heap.size = qa
  generalize hqb : qa + 1 = qb
  generalize qb + 1 = qo
  clear HP HB2 HB HK HK2 HBO m0 m1 m2 m3 m4 hq0 hqb hqf hqf0
  intro W3 hk
  have HK := hid hk
  clear hk
  go_wp2_with fail
  go_loopw [10] (fun i W => ∃ j : Nat, j ≤ len0 ∧ i = .int .i64 j ∧ ∃ s hs os, s.zs.length = 48 ∧ RnAt w q qf qa qb qo b vw c vr s s hs hs os W) (fun i _ => len0 - (intOf i).toNat)
  case atStart => exact ⟨0, by omega, rfl, _, _, _, zrow_len 48, HK.out⟩
  case round =>
    clear HK
    obtain ⟨j, hj, rfl, s, hs, os, hL, hR⟩ := hrel
    have HLEN := hid hL
    have HK := hid hR
    clear hL hR
    by_cases hlt : j < len0
    · obtain ⟨g, off, rfl, _, hc⟩ := HR0.out.at (by omega)
      have HC0 := hid (show ∀ W', Below w.heap.size w W' → W'.cell? ⟨g, off + j, none⟩ = some (.int .i64 (zs0.getD j 0)) from fun W' hb => (hb.cell (p := ⟨g, off + j, none⟩) (World.block_lt_of_cell? w _ (hc j hlt))).trans (hc j hlt))
      generalize zs0.getD j 0 = z at HC0
      clear hc
      have c0 := HC0.out _ HK.out.below
      have i1 : (0 : Int) ≤ (j : Int) := by omega
      have i2 : (j : Int) < (len0 : Int) := by omega
      go_upto_region 14 with fail
      obtain ⟨k, hk4, hkk⟩ := pick_of4 z
      rw [hkk]
      clear hkk
      have k1 : (0 : Int) ≤ (k : Int) := by omega
      have k2 : (k : Int) < 4 := by omega
      have hu0 := u64_from0 z
      obtain ⟨f0, f1, f2, f3, f4, ff⟩ := HK.out.bh.facts hk4
      obtain ⟨p0, pf⟩ := HK.out.oo.facts hk4
      go_upto_if 43 with fail
      go_cut [] (fun W => ∃ hs' os', RnAt w q qf qa qb qo b vw c vr s s hs' hs' os' W)
      case first =>
        by_cases h0' : (hs k).s = 0
        · go_upto_region 16 with fail
          refine wp_rename (fun W => RnAt w q qf qa qb qo b vw c vr s s hs hs (updV os k false) W) (HK.out.setO hk4 false) ?_
          clear HK f0 f1 f2 f3 f4 ff p0 pf c0
          intro W6 hk6
          have HK := hid hk6
          clear hk6
          have c0 := HC0.out _ HK.out.below
          obtain ⟨e0, e1, e2, e3, e4, ef⟩ := HK.out.ah.facts hk4
          go_upto_region 17 with fail
          refine wp_rename (fun W => ∃ bt : Bool, RnAt w q qf qa qb qo b vw c vr s s (upd hs k ⟨k, 0, 0, bt, 0⟩) hs (updV os k false) W) ⟨_, HK.out.setA hk4 ⟨k, 0, 0, _, 0⟩⟩ ?_
          clear HK e0 e1 e2 e3 e4 ef c0
          rintro W7 ⟨bt, hk7⟩
          have HK := hid hk7
          clear hk7
          obtain ⟨e0, e1, e2, e3, e4, ef⟩ := HK.out.ah.facts hk4
          rw [upd_at] at e0 e1 e2 e3 e4
          simp only at e0 e1 e2 e3 e4
          obtain ⟨f0, f1, f2, f3, f4, ff⟩ := HK.out.bh.facts hk4
          go_wp2_with fail
          go_meet
          case rel => exact ⟨_, _, HK.out.setB hk4 ⟨k, 0, 0, bt, 0⟩⟩
        · go_wp2_with fail
          go_meet
          case rel => exact ⟨_, _, HK.out⟩
      case rest =>
        clear HK f0 f1 f2 f3 f4 ff p0 pf c0
        obtain ⟨hs, os', hk'⟩ := hcut
        have HK := hid hk'
        clear hk'
        have c0 := HC0.out _ HK.out.below
        obtain ⟨f0, f1, f2, f3, f4, ff⟩ := HK.out.bh.facts hk4
        obtain ⟨p0, pf⟩ := HK.out.oo.facts hk4
        go_upto_if 67 with fail
        go_cut [] (fun W => ∃ os', RnAt w q qf qa qb qo b vw c vr s s hs hs os' W)
        case first =>
          by_cases h9 : (hs k).s = 9
          · go_wp2_with fail
            go_meet
            case rel => exact ⟨_, HK.out.setO hk4 _⟩
          · go_wp2_with fail
            go_meet
            case rel => exact ⟨_, HK.out⟩
        case rest =>
          clear HK f0 f1 f2 f3 f4 ff p0 pf c0 hu0
          obtain ⟨os, hk'⟩ := hcut
          have HK := hid hk'
          clear hk'
          obtain ⟨p0, pf⟩ := HK.out.oo.facts hk4
          go_upto_if 80 with fail
          go_cut [] (fun W => ∃ s hs, s.zs.length = 48 ∧ RnAt w q qf qa qb qo b vw c vr s s hs hs os W)
          case first =>
            have HTK := hid (fun (x : World) (hm : Mem x w.heap.size b vw s) => rwTake_any mp4 (hs k) x _ b vw s hm (by rw [mp4_size, HLEN.out]; decide))
            have HRT := hid (fun (x : World) (hm : Ref x w.heap.size c vr s) => rrwTake_any mp4 (hs k) x _ c vr s hm (by rw [mp4_size, HLEN.out]; decide))
            have HDR := hid (fun (x : World) (hm : Mem x w.heap.size b vw s) => rwDrop_any mp4 (hs k) x _ b vw s hm (by rw [mp4_size, HLEN.out]; decide))
            have HRD := hid (fun (x : World) (hm : Ref x w.heap.size c vr s) => rrwDrop_any mp4 (hs k) x _ c vr s hm (by rw [mp4_size, HLEN.out]; decide))
            clear p0 pf
            cases hos : os k
            · go_upto_region 22 with fail
              have hne1 : Nonempty (Sat (fun W => ∃ s t, RnAt w q qf qa qb qo b vw c vr s t hs hs os W)) := ⟨⟨_, _, _, HK.out⟩⟩
              have hne2 : Nonempty (Sat (fun _ => True)) := ⟨⟨w, trivial⟩⟩
              have hcells := fun (x : Sat (fun W => ∃ s t, RnAt w q qf qa qb qo b vw c vr s t hs hs os W)) => RnAt.satCells x hk4
              have y0 := fun x => (hcells x).1
              have y1 := fun x => (hcells x).2.1
              have y2 := fun x => (hcells x).2.2.1
              have y3 := fun x => (hcells x).2.2.2.1
              have y4 := fun x => (hcells x).2.2.2.2.1
              have y5 := fun x => (hcells x).2.2.2.2.2.1
              have y6 := fun x => (hcells x).2.2.2.2.2.2.1
              have y7 := fun x => (hcells x).2.2.2.2.2.2.2.1
              have y8 := fun x => (hcells x).2.2.2.2.2.2.2.2.1
              have y9 := fun x => (hcells x).2.2.2.2.2.2.2.2.2.1
              have y10 := fun x => (hcells x).2.2.2.2.2.2.2.2.2.2.1
              have y11 := fun x => (hcells x).2.2.2.2.2.2.2.2.2.2.2.1
              have y12 := fun x => (hcells x).2.2.2.2.2.2.2.2.2.2.2.2.1
              have y13 := fun x => (hcells x).2.2.2.2.2.2.2.2.2.2.2.2.2.1
              have y14 := fun x => (hcells x).2.2.2.2.2.2.2.2.2.2.2.2.2.2.1
              have y15 := fun x => (hcells x).2.2.2.2.2.2.2.2.2.2.2.2.2.2.2.1
              have y16 := fun x => (hcells x).2.2.2.2.2.2.2.2.2.2.2.2.2.2.2.2.1
              have y17 := fun x => (hcells x).2.2.2.2.2.2.2.2.2.2.2.2.2.2.2.2.2.1
              have y18 := fun x => (hcells x).2.2.2.2.2.2.2.2.2.2.2.2.2.2.2.2.2.2.1
              have y19 := fun x => (hcells x).2.2.2.2.2.2.2.2.2.2.2.2.2.2.2.2.2.2.2
              clear hcells
              refine wp_region_staged (RnD w q qf qa qb qo b vw c vr s (rwTake mp4 s (hs k)).2 hs k (rwTake mp4 s (hs k)).1 os) (by kernel_rfl) (by kernel_rfl) (fun L hL => RnD.start hL HK.out) ?_
              refine wpS_plain (fun _ => True) (fun _ _ _ _ _ => trivial) (fun _ _ h => h) rfl rfl ?_
              intro KK hKK
              go_big_quiet_op
              go_big_quiet_on
              refine wpS_plain (fun _ => True) (fun _ _ _ _ _ => trivial) (fun _ _ h => h) rfl rfl ?_
              intro KK hKK
              go_big_quiet_op
              go_big_quiet_on
              refine wpS_plain (fun W => ∃ s t, RnAt w q qf qa qb qo b vw c vr s t hs hs os W) (fun L W hL hcl hd => by have h := hcl.no hL (j := 7) (by kernel_rfl); have h := hcl.no h (j := 13) (by kernel_rfl); have h15 := hcl.no h (j := 15) (by kernel_rfl); have h17 := hcl.no h15 (j := 17) (by kernel_rfl); exact RnD.reads hd h15 h17) (fun _ _ h => h) rfl rfl ?_
              intro KK hKK
              go_big_quiet_op
              go_big_quiet_on
              refine wpS_plain (fun _ => True) (fun _ _ _ _ _ => trivial) (fun _ _ h => h) rfl rfl ?_
              intro KK hKK
              go_big_quiet_op
              go_big_quiet_on
              refine wpS_plain (fun _ => True) (fun _ _ _ _ _ => trivial) (fun _ _ h => h) rfl rfl ?_
              intro KK hKK
              go_big_quiet_op
              go_big_quiet_on
              refine wpS_plain (fun _ => True) (fun _ _ _ _ _ => trivial) (fun _ _ h => h) rfl rfl ?_
              intro KK hKK
              go_big_quiet_op
              go_big_quiet_on
              refine wpS_plain (fun W => ∃ s t, RnAt w q qf qa qb qo b vw c vr s t hs hs os W) (fun L W hL hcl hd => by have h := hcl.no hL (j := 7) (by kernel_rfl); have h := hcl.no h (j := 13) (by kernel_rfl); have h15 := hcl.no h (j := 15) (by kernel_rfl); have h17 := hcl.no h15 (j := 17) (by kernel_rfl); exact RnD.reads hd h15 h17) (fun _ _ h => h) rfl rfl ?_
              intro KK hKK
              go_big_quiet_op
              go_big_quiet_on
              refine wpS_call 18 #[(PM.v mp4), .pointer (some ⟨b, 0, none⟩), (hs k).v] (rwTake mp4 s (hs k)).1.v rfl (fun _ => by go_simp) ?_ ?_
              · intro L W hL hcl hd
                have hd1 := RnD.at7 hd hL
                refine (HTK.out _ hd1.pair.mem).mono ?_
                rintro e w'' ⟨rfl, hm, hw⟩
                exact ⟨rfl, hd1.one hm hw⟩
              (try simp only [Act.put, List.getElem_toArray, List.getElem_cons_zero, List.getElem_cons_succ, List.setIfInBounds_toArray, List.set_cons_zero, List.set_cons_succ])
              refine wpS_plain (fun W => ∃ s t, RnAt w q qf qa qb qo b vw c vr s t hs hs os W) (fun L W hL hcl hd => by have h := hcl.no hL (j := 13) (by kernel_rfl); have h15 := hcl.no h (j := 15) (by kernel_rfl); have h17 := hcl.no h15 (j := 17) (by kernel_rfl); exact RnD.reads hd h15 h17) (fun _ _ h => h) rfl rfl ?_
              intro KK hKK
              go_big_quiet_op
              go_big_quiet_on
              refine wpS_plain (fun _ => True) (fun _ _ _ _ _ => trivial) (fun _ _ h => h) rfl rfl ?_
              intro KK hKK
              go_big_quiet_op
              go_big_quiet_on
              refine wpS_plain (fun _ => True) (fun _ _ _ _ _ => trivial) (fun _ _ h => h) rfl rfl ?_
              intro KK hKK
              go_big_quiet_op
              go_big_quiet_on
              refine wpS_plain (fun _ => True) (fun _ _ _ _ _ => trivial) (fun _ _ h => h) rfl rfl ?_
              intro KK hKK
              go_big_quiet_op
              go_big_quiet_on
              refine wpS_plain (fun W => ∃ s t, RnAt w q qf qa qb qo b vw c vr s t hs hs os W) (fun L W hL hcl hd => by have h := hcl.no hL (j := 13) (by kernel_rfl); have h15 := hcl.no h (j := 15) (by kernel_rfl); have h17 := hcl.no h15 (j := 17) (by kernel_rfl); exact RnD.reads hd h15 h17) (fun _ _ h => h) rfl rfl ?_
              intro KK hKK
              go_big_quiet_op
              go_big_quiet_on
              refine wpS_call 19 #[(PM.v mp4), .pointer (some ⟨c, 0, none⟩), (hs k).v] (rwTake mp4 s (hs k)).1.v rfl (fun _ => by go_simp) ?_ ?_
              · intro L W hL hcl hd
                have hd1 := RnD.at13 hd hL
                refine (HRT.out _ hd1.pair.ref).mono ?_
                rintro e w'' ⟨rfl, hm, hw⟩
                exact ⟨rfl, hd1.two hm hw⟩
              (try simp only [Act.put, List.getElem_toArray, List.getElem_cons_zero, List.getElem_cons_succ, List.setIfInBounds_toArray, List.set_cons_zero, List.set_cons_succ])
              refine wpS_plain (fun _ => True) (fun _ _ _ _ _ => trivial) (fun _ _ h => h) rfl rfl ?_
              intro KK hKK
              go_big_quiet_op
              go_big_quiet_on
              refine wpS_store rfl ?_ ?_
              · intro L W hL hcl hd
                have hd1 := RnD.at15 hd hL
                obtain ⟨e0, e1, e2, e3, e4, ef⟩ := hd1.ah.facts hk4
                exact ⟨_, by go_simp, hd1.setA hk4 (rwTake mp4 s (hs k)).1⟩
              (try simp only [Act.put, List.getElem_toArray, List.getElem_cons_zero, List.getElem_cons_succ, List.setIfInBounds_toArray, List.set_cons_zero, List.set_cons_succ])
              refine wpS_plain (fun _ => True) (fun _ _ _ _ _ => trivial) (fun _ _ h => h) rfl rfl ?_
              intro KK hKK
              go_big_quiet_op
              go_big_quiet_on
              refine wpS_store rfl ?_ ?_
              · intro L W hL hcl hd
                have hd1 := RnD.at17 hd hL
                obtain ⟨e0, e1, e2, e3, e4, ef⟩ := hd1.bh.facts hk4
                exact ⟨_, by go_simp, hd1.setB hk4 (rwTake mp4 s (hs k)).1⟩
              (try simp only [Act.put, List.getElem_toArray, List.getElem_cons_zero, List.getElem_cons_succ, List.setIfInBounds_toArray, List.set_cons_zero, List.set_cons_succ])
              intro L W hall hd
              have HK9 := hid (RnD.end_ hall hd)
              clear hd hall y0 y1 y2 y3 y4 y5 y6 y7 y8 y9 y10 y11 y12 y13 y14 y15 y16 y17 y18 y19 hne1 hne2
              go_wp2_with fail
              go_meet
              case rel => exact ⟨_, _, by rw [len_rwTake]; exact HLEN.out, HK9.out⟩
            · go_upto_region 21 with fail
              have hne1 : Nonempty (Sat (fun W => ∃ s t, RnAt w q qf qa qb qo b vw c vr s t hs hs os W)) := ⟨⟨_, _, _, HK.out⟩⟩
              have hne2 : Nonempty (Sat (fun _ => True)) := ⟨⟨w, trivial⟩⟩
              have hcells := fun (x : Sat (fun W => ∃ s t, RnAt w q qf qa qb qo b vw c vr s t hs hs os W)) => RnAt.satCells x hk4
              have y0 := fun x => (hcells x).1
              have y1 := fun x => (hcells x).2.1
              have y2 := fun x => (hcells x).2.2.1
              have y3 := fun x => (hcells x).2.2.2.1
              have y4 := fun x => (hcells x).2.2.2.2.1
              have y5 := fun x => (hcells x).2.2.2.2.2.1
              have y6 := fun x => (hcells x).2.2.2.2.2.2.1
              have y7 := fun x => (hcells x).2.2.2.2.2.2.2.1
              have y8 := fun x => (hcells x).2.2.2.2.2.2.2.2.1
              have y9 := fun x => (hcells x).2.2.2.2.2.2.2.2.2.1
              have y10 := fun x => (hcells x).2.2.2.2.2.2.2.2.2.2.1
              have y11 := fun x => (hcells x).2.2.2.2.2.2.2.2.2.2.2.1
              have y12 := fun x => (hcells x).2.2.2.2.2.2.2.2.2.2.2.2.1
              have y13 := fun x => (hcells x).2.2.2.2.2.2.2.2.2.2.2.2.2.1
              have y14 := fun x => (hcells x).2.2.2.2.2.2.2.2.2.2.2.2.2.2.1
              have y15 := fun x => (hcells x).2.2.2.2.2.2.2.2.2.2.2.2.2.2.2.1
              have y16 := fun x => (hcells x).2.2.2.2.2.2.2.2.2.2.2.2.2.2.2.2.1
              have y17 := fun x => (hcells x).2.2.2.2.2.2.2.2.2.2.2.2.2.2.2.2.2.1
              have y18 := fun x => (hcells x).2.2.2.2.2.2.2.2.2.2.2.2.2.2.2.2.2.2.1
              have y19 := fun x => (hcells x).2.2.2.2.2.2.2.2.2.2.2.2.2.2.2.2.2.2.2
              clear hcells
              refine wp_region_staged (RnD w q qf qa qb qo b vw c vr s (rwDrop mp4 s (hs k)).2 hs k (rwDrop mp4 s (hs k)).1 os) (by kernel_rfl) (by kernel_rfl) (fun L hL => RnD.start hL HK.out) ?_
              refine wpS_plain (fun _ => True) (fun _ _ _ _ _ => trivial) (fun _ _ h => h) rfl rfl ?_
              intro KK hKK
              go_big_quiet_op
              go_big_quiet_on
              refine wpS_plain (fun _ => True) (fun _ _ _ _ _ => trivial) (fun _ _ h => h) rfl rfl ?_
              intro KK hKK
              go_big_quiet_op
              go_big_quiet_on
              refine wpS_plain (fun W => ∃ s t, RnAt w q qf qa qb qo b vw c vr s t hs hs os W) (fun L W hL hcl hd => by have h := hcl.no hL (j := 7) (by kernel_rfl); have h := hcl.no h (j := 13) (by kernel_rfl); have h15 := hcl.no h (j := 15) (by kernel_rfl); have h17 := hcl.no h15 (j := 17) (by kernel_rfl); exact RnD.reads hd h15 h17) (fun _ _ h => h) rfl rfl ?_
              intro KK hKK
              go_big_quiet_op
              go_big_quiet_on
              refine wpS_plain (fun _ => True) (fun _ _ _ _ _ => trivial) (fun _ _ h => h) rfl rfl ?_
              intro KK hKK
              go_big_quiet_op
              go_big_quiet_on
              refine wpS_plain (fun _ => True) (fun _ _ _ _ _ => trivial) (fun _ _ h => h) rfl rfl ?_
              intro KK hKK
              go_big_quiet_op
              go_big_quiet_on
              refine wpS_plain (fun _ => True) (fun _ _ _ _ _ => trivial) (fun _ _ h => h) rfl rfl ?_
              intro KK hKK
              go_big_quiet_op
              go_big_quiet_on
              refine wpS_plain (fun W => ∃ s t, RnAt w q qf qa qb qo b vw c vr s t hs hs os W) (fun L W hL hcl hd => by have h := hcl.no hL (j := 7) (by kernel_rfl); have h := hcl.no h (j := 13) (by kernel_rfl); have h15 := hcl.no h (j := 15) (by kernel_rfl); have h17 := hcl.no h15 (j := 17) (by kernel_rfl); exact RnD.reads hd h15 h17) (fun _ _ h => h) rfl rfl ?_
              intro KK hKK
              go_big_quiet_op
              go_big_quiet_on
              refine wpS_call 16 #[(PM.v mp4), .pointer (some ⟨b, 0, none⟩), (hs k).v] (rwDrop mp4 s (hs k)).1.v rfl (fun _ => by go_simp) ?_ ?_
              · intro L W hL hcl hd
                have hd1 := RnD.at7 hd hL
                refine (HDR.out _ hd1.pair.mem).mono ?_
                rintro e w'' ⟨rfl, hm, hw⟩
                exact ⟨rfl, hd1.one hm hw⟩
              (try simp only [Act.put, List.getElem_toArray, List.getElem_cons_zero, List.getElem_cons_succ, List.setIfInBounds_toArray, List.set_cons_zero, List.set_cons_succ])
              refine wpS_plain (fun W => ∃ s t, RnAt w q qf qa qb qo b vw c vr s t hs hs os W) (fun L W hL hcl hd => by have h := hcl.no hL (j := 13) (by kernel_rfl); have h15 := hcl.no h (j := 15) (by kernel_rfl); have h17 := hcl.no h15 (j := 17) (by kernel_rfl); exact RnD.reads hd h15 h17) (fun _ _ h => h) rfl rfl ?_
              intro KK hKK
              go_big_quiet_op
              go_big_quiet_on
              refine wpS_plain (fun _ => True) (fun _ _ _ _ _ => trivial) (fun _ _ h => h) rfl rfl ?_
              intro KK hKK
              go_big_quiet_op
              go_big_quiet_on
              refine wpS_plain (fun _ => True) (fun _ _ _ _ _ => trivial) (fun _ _ h => h) rfl rfl ?_
              intro KK hKK
              go_big_quiet_op
              go_big_quiet_on
              refine wpS_plain (fun _ => True) (fun _ _ _ _ _ => trivial) (fun _ _ h => h) rfl rfl ?_
              intro KK hKK
              go_big_quiet_op
              go_big_quiet_on
              refine wpS_plain (fun W => ∃ s t, RnAt w q qf qa qb qo b vw c vr s t hs hs os W) (fun L W hL hcl hd => by have h := hcl.no hL (j := 13) (by kernel_rfl); have h15 := hcl.no h (j := 15) (by kernel_rfl); have h17 := hcl.no h15 (j := 17) (by kernel_rfl); exact RnD.reads hd h15 h17) (fun _ _ h => h) rfl rfl ?_
              intro KK hKK
              go_big_quiet_op
              go_big_quiet_on
              refine wpS_call 17 #[(PM.v mp4), .pointer (some ⟨c, 0, none⟩), (hs k).v] (rwDrop mp4 s (hs k)).1.v rfl (fun _ => by go_simp) ?_ ?_
              · intro L W hL hcl hd
                have hd1 := RnD.at13 hd hL
                refine (HRD.out _ hd1.pair.ref).mono ?_
                rintro e w'' ⟨rfl, hm, hw⟩
                exact ⟨rfl, hd1.two hm hw⟩
              (try simp only [Act.put, List.getElem_toArray, List.getElem_cons_zero, List.getElem_cons_succ, List.setIfInBounds_toArray, List.set_cons_zero, List.set_cons_succ])
              refine wpS_plain (fun _ => True) (fun _ _ _ _ _ => trivial) (fun _ _ h => h) rfl rfl ?_
              intro KK hKK
              go_big_quiet_op
              go_big_quiet_on
              refine wpS_store rfl ?_ ?_
              · intro L W hL hcl hd
                have hd1 := RnD.at15 hd hL
                obtain ⟨e0, e1, e2, e3, e4, ef⟩ := hd1.ah.facts hk4
                exact ⟨_, by go_simp, hd1.setA hk4 (rwDrop mp4 s (hs k)).1⟩
              (try simp only [Act.put, List.getElem_toArray, List.getElem_cons_zero, List.getElem_cons_succ, List.setIfInBounds_toArray, List.set_cons_zero, List.set_cons_succ])
              refine wpS_plain (fun _ => True) (fun _ _ _ _ _ => trivial) (fun _ _ h => h) rfl rfl ?_
              intro KK hKK
              go_big_quiet_op
              go_big_quiet_on
              refine wpS_store rfl ?_ ?_
              · intro L W hL hcl hd
                have hd1 := RnD.at17 hd hL
                obtain ⟨e0, e1, e2, e3, e4, ef⟩ := hd1.bh.facts hk4
                exact ⟨_, by go_simp, hd1.setB hk4 (rwDrop mp4 s (hs k)).1⟩
              (try simp only [Act.put, List.getElem_toArray, List.getElem_cons_zero, List.getElem_cons_succ, List.setIfInBounds_toArray, List.set_cons_zero, List.set_cons_succ])
              intro L W hall hd
              have HK9 := hid (RnD.end_ hall hd)
              clear hd hall y0 y1 y2 y3 y4 y5 y6 y7 y8 y9 y10 y11 y12 y13 y14 y15 y16 y17 y18 y19 hne1 hne2
              go_wp2_with fail
              go_meet
              case rel => exact ⟨_, _, by rw [len_rwDrop]; exact HLEN.out, HK9.out⟩
          case rest =>
            clear HK p0 pf HC0 k1 k2
            obtain ⟨s2, hs2, hL2, hR2⟩ := hcut
            have HL2 := hid hL2
            have HK := hid hR2
            clear hL2 hR2
            obtain ⟨e0, e1, e2, e3, e4, ef⟩ := HK.out.ah.facts hk4
            obtain ⟨f0, f1, f2, f3, f4, ff⟩ := HK.out.bh.facts hk4
            have hne := neq_hand
            have hg := guard_hand
            have hsame : sameH ⟨(hs2 k).t, (hs2 k).l, (hs2 k).s, (hs2 k).rd, (hs2 k).x⟩ ⟨(hs2 k).t, (hs2 k).l, (hs2 k).s, (hs2 k).rd, (hs2 k).x⟩ = true := sameH_refl _
            have k1 : (0 : Int) ≤ (k : Int) := by omega
            have k2 : (k : Int) < 4 := by omega
            have za := HK.out.ah.lt
            have zb := HK.out.bh.lt
            go_upto_region 23 with fail
            refine wp_region_later (by kernel_rfl) (by kernel_rfl) ?_
            repeat (go_big_quiet_step ((go_at_call 22; with_reducible exact later_call (Like_yes _ _ _ _ _ _ _ (HK.out.later (Later.below _)).pair))))
            refine wpQuiet_nil ?_
            rintro _ ⟨xq, rfl⟩
            have HK3 := hid (HK.out.later xq.below)
            clear e0 e1 e2 e3 e4 ef f0 f1 f2 f3 f4 ff hne hg hsame za zb
            go_wp2_with fail
            go_roundw
            case rel => exact ⟨j + 1, by omega, by go_num, _, _, _, HL2.out, HK3.out⟩
            case measure => simp [intOf]; omega
    · obtain rfl : j = len0 := by omega
      go_upto_region 25 with fail
      go_wp2_with (first | (go_at_call 20; (with_reducible refine (told10_any _).mono ?_); rintro e w8 ⟨rfl, hb8⟩; have HK := hid (HK.out.later hb8); clear hb8) | (go_at_call 21; (with_reducible refine (Same_yes _ _ _ _ _ _ _ _ _ HK.out.pair.mem HK.out.pair.ref rfl (by rw [HLEN.out]; decide)).mono ?_); rintro e w9 ⟨rfl, hb9⟩; have HK := hid (HK.out.later hb9); clear hb9))
      go_ret
      exact ⟨rfl, HK.out.below⟩

end Go.Proofs.Ytmcmajndcbobpaa
