/-
  bumps: three bumps by picks: what was made, and what the word is then.
-/
import Derived.Test.YtkfajeimfpbfdaaBpAt
namespace Go.Proofs.Ytkfajeimfpbfdaa
open Go.RowKit
attribute [local go_sem] Later.cell Later.frozen

theorem BI.begin {K : Int} {bs : Nat → BD} {fs : Nat → Int} (h : ∀ t, t < 3 → bs t = ⟨K, 0, 0, 0⟩) : BI K 0 0 bs fs [] [] where
  v0 := by omega
  v1 := by omega
  st := fun t ht => .inl (h t ht)
  len := rfl
  few := by simp
  up := fun i h => by simp at h
  own := fun _ => ⟨by simp, fun i h => by simp at h⟩
  join := fun _ => by omega
/-- What bumps comes to. -/
def Bumped (K : Int) (n : Nat) (w : World) (e : Ending) (w' : World) : Prop :=
  ∃ vo vb out beg v bs fs, e = .returned (.tuple #[vo, vb, .int .i64 v, .bool true]) ∧ BI K v n bs fs out beg ∧ JL w' w.heap.size vo out ∧ JL w' w.heap.size vb beg ∧ Below w.heap.size w w'
/-- What the loop over the picks keeps. -/
def BRel (w : World) (q b : Nat) (vw : Value) (c : Nat) (vr : Value) (t : MS) (qb qf : Nat) (K : Int) (n : Nat) (vo vb i : Value) (W : World) : Prop :=
  ∃ (j : Nat) (s : MS) (bs : Nat → BD) (fs : Nat → Int) (out beg : List Int), j ≤ n ∧ i = .int .i64 j ∧ s.zs.length = 48 ∧ (0 ≤ s.steps ∧ s.steps ≤ j) ∧ BI K (s.vAt (wordK K)) j bs fs out beg ∧ BpAt w q b vw c vr s t qb bs qf fs vo vb out beg W

set_option maxRecDepth 100000 in
set_option maxHeartbeats 8000000 in
theorem bumps_any (e0 c0 K : Int) (hm : (e0 = 1 ∧ c0 = 1 ∧ K = 1) ∨ (e0 = 1 ∧ c0 = 2 ∧ K = 2) ∨ (e0 = 2 ∧ c0 = 1 ∧ K = 3)) (a0 : Option Addr) (len0 cap0 : Nat) (zs0 : List Int) (w : World) (hr0 : IntRow w a0 len0 zs0) (hl0 : len0 ≤ 100) :
    Calls Try.prog 23 #[.int .i64 e0, .int .i64 c0, .slice a0 len0 cap0] w (Bumped K len0 w) := by
  have HR0 := hid hr0
  have HSA := hid (fun (x : World) => (show Calls Try.prog 20 #[.int .i64 e0, .int .i64 c0] x fun e w' => e = .returned (BD.mk K 0 0 0).v ∧ Below x.heap.size x w' from by
    have := Start_any e0 c0 x
    rcases hm with ⟨rfl, rfl, rfl⟩ | ⟨rfl, rfl, rfl⟩ | ⟨rfl, rfl, rfl⟩ <;> exact this))
  have HK3 := hid (show K = 1 ∨ K = 2 ∨ K = 3 from by rcases hm with h | h | h <;> omega)
  have HE := hid (show (e0 = 2 ∧ wordK K = 1) ∨ (e0 ≠ 2 ∧ wordK K = 0) from by
    rcases hm with ⟨rfl, rfl, rfl⟩ | ⟨rfl, rfl, rfl⟩ | ⟨rfl, rfl, rfl⟩ <;> decide)
  clear hr0 hm
  have HBO := hid (fun (x : World) => (show Calls Try.prog 8 #[mp4.v] x (MadeBoth 48 x) from by have := Both_any mp4 x mp4_ok; rwa [mp4_size] at this))
  go_enter Try.func23, Try.ntmps23
  go_upto_region 2 with (go_at_call 7; (with_reducible refine (Map_any _).mono ?_); rintro e w1 ⟨rfl, hb1⟩; have HB1 := hid hb1; clear hb1)
  refine wp_rename (fun W => MapAt 25 W w1.heap.size mp4 ∧ Below w.heap.size w W) ⟨MapAt.new _ w1 mp4, bnew HB1.out _⟩ ?_
  have hq0 := HB1.out.size
  generalize w1.heap.size = q at hq0 ⊢
  clear HB1
  rintro W ⟨hk, hb⟩
  have HK := hid hk
  have HB := hid hb
  obtain ⟨m0, m1, m2, m3, m4, _⟩ := hk.facts
  clear hk hb
  go_upto_region 5 with (go_at_call 8; (with_reducible refine (HBO.out _).mono ?_); rintro e w2 ⟨b, vw, c, vr, rfl, hp, hb2⟩; have HP := hid hp; have HB2 := hid hb2; clear hp hb2)
  refine wp_rename (fun W' => Fr w q b vw c vr (MS.new (zrow 48)) (MS.new (zrow 48)) W') (Fr.start HK.out hq0 HB.out HP.out HB2.out) ?_
  clear HP HB2 HB HK HBO m0 m1 m2 m3 m4 hq0
  intro W3 hk
  have HK := hid hk
  obtain ⟨m0, m1, m2, m3, m4, _⟩ := hk.map.facts
  clear hk
  have HCK := hid (fun (x : World) => (show Calls Try.prog 10 #[mp4.v] x fun e w' => e = .returned (.int .i64 0) ∧ Below x.heap.size x w' from by have := Clock_any mp4 x; rwa [clock0] at this))
  have HSQ := hid (fun (x : World) => (show Calls Try.prog 12 #[mp4.v] x fun e w' => e = .returned (.int .i64 1) ∧ Below x.heap.size x w' from by have := Seq_any mp4 x; rwa [seq1] at this))
  go_upto_region 6 with (go_at_call 10; (with_reducible refine (HCK.out _).mono ?_); rintro e w4 ⟨rfl, hb4⟩; have HK := hid (HK.out.later hb4); clear hb4)
  clear m0 m1 m2 m3 m4
  obtain ⟨m0, m1, m2, m3, m4, _⟩ := HK.out.map.facts
  go_upto_if 33 with fail
  go_cut [13] (fun v W => v = .int .i64 (wordK K) ∧ Fr w q b vw c vr (MS.new (zrow 48)) (MS.new (zrow 48)) W)
  case first =>
    rcases HE.out with ⟨rfl, hw⟩ | ⟨hn, hw⟩
    · go_wp2_with (go_at_call 12; (with_reducible refine (HSQ.out _).mono ?_); rintro e w4 ⟨rfl, hb4⟩; have HK4 := hid (HK.out.later hb4); clear hb4)
      go_meet
      case rel => exact ⟨by rw [hw], HK4.out⟩
    · have hnb : (e0 == 2) = false := by simp [hn]
      go_wp2_with fail
      go_meet
      case rel => exact ⟨by rw [hw], HK.out⟩
  case rest =>
  obtain ⟨rfl, hk1⟩ := hcut
  clear HK HCK HSQ HE m0 m1 m2 m3 m4
  have HK := hid hk1
  clear hk1
  have HZV := hid (show (MS.new (zrow 48)).vAt (wordK K) = 0 from by
    unfold wordK
    split <;> decide +kernel)
  have HZL := hid (zrow_len 48)
  have HZS := hid (show (MS.new (zrow 48)).steps = 0 from rfl)
  generalize MS.new (zrow 48) = t at *
  go_upto_region 10 with fail
  refine wp_rename (fun W' => BpAt w q b vw c vr t t wc.heap.size (fun _ => b0) (wc.heap.size + 1) (fun _ => 0) (.slice none 0 0) (.slice none 0 0) [] [] W') ?_ ?_
  · have h1 := (BumpsAt.new wc).below (bnew (bid _) (.cells #[.int .i64 0, .int .i64 0, .int .i64 0] 81))
    have h2 := Thr.new (wc.alloc (.cells three0 80))
    rw [size_alloc1] at h2
    have hbb := bnew (bnew (bid wc) (.cells three0 80)) (.cells #[.int .i64 0, .int .i64 0, .int .i64 0] 81)
    have hq := HK.out.map.lt
    have hy := HK.out.pair.young
    refine ⟨HK.out.later hbb, h1, h2, JL.nil _ _, JL.nil _ _, ⟨fun j => if j = q then 0 else if j = wc.heap.size then 1 else if j = wc.heap.size + 1 then 2 else 5, by simp, ?_, ?_, fun k h => (by cases h), fun k h => (by cases h), fun k hk => ?_⟩, by have := HK.out.below.size; omega⟩
    · show (if wc.heap.size = q then _ else _) = 1
      rw [if_neg (by omega), if_pos rfl]
    · show (if wc.heap.size + 1 = q then _ else _) = 2
      rw [if_neg (by omega), if_neg (by omega), if_pos rfl]
    · have h5 := hy k hk
      have h6 : k ≠ q := fun e => HK.out.fr (e ▸ hk)
      show (if k = q then _ else _) = 5
      rw [if_neg h6, if_neg (by omega), if_neg (by omega)]
  generalize wc.heap.size + 1 = qf
  generalize wc.heap.size = qb
  clear HK
  intro W4 hk4
  have HK := hid hk4
  clear hk4
  go_wp2_with fail
  go_loopw [16] (fun i W => ∃ k : Nat, k ≤ 3 ∧ i = .int .i64 k ∧ ∃ bs : Nat → BD, (∀ j, j < k → bs j = ⟨K, 0, 0, 0⟩) ∧ BpAt w q b vw c vr t t qb bs qf (fun _ => 0) (.slice none 0 0) (.slice none 0 0) [] [] W) (fun i _ => 3 - (intOf i).toNat)
  case atStart => exact ⟨0, by omega, rfl, _, fun j h => by omega, HK.out⟩
  case round =>
    clear HK
    obtain ⟨k, hk, rfl, bs, hbs, hr⟩ := hrel
    have HK := hid hr
    have HBS := hid hbs
    clear hr hbs
    by_cases hlt : k < 3
    · have i1 : (0 : Int) ≤ (k : Int) := by omega
      have i2 : (k : Int) < 3 := by omega
      go_upto_region 12 with (go_at_call 20; (with_reducible refine (HSA.out _).mono ?_); rintro e w5 ⟨rfl, hb5⟩; have HK5 := hid (HK.out.later hb5); obtain ⟨e0, e1, e2, e3, ef⟩ := HK5.out.bb.facts hlt; clear hb5)
      refine wp_rename _ (HK5.out.setB hlt ⟨K, 0, 0, 0⟩) ?_
      clear HK HK5 e0 e1 e2 e3 ef
      intro W5 hk5
      have HK := hid hk5
      clear hk5
      go_wp2_with fail
      go_roundw
      case rel => exact ⟨k + 1, by omega, by go_num, _, fun j hj => by
        by_cases e : j = k
        · rw [e, updA_at]
        · rw [updA_ne e]; exact HBS.out j (by omega), HK.out⟩
      case measure => simp [intOf]; omega
    · obtain rfl : k = 3 := by omega
      go_wp2_with fail
      have HN0 := hid (show BRel w q b vw c vr t qb qf K len0 (.slice none 0 0) (.slice none 0 0) (.int .i64 0) wr from
        ⟨0, t, bs, fun _ => 0, [], [], by omega, rfl, HZL.out, by rw [HZS.out]; exact ⟨by decide, by decide⟩, by rw [HZV.out]; exact BI.begin HBS.out, HK.out⟩)
      clear HK hlt hk HZV HZL HZS HBS
      go_loopw [17, 18, 19] (fun vo vb i W => BRel w q b vw c vr t qb qf K len0 vo vb i W) (fun _ _ i _ => len0 - (intOf i).toNat)
      case atStart => exact HN0.out
      case round =>
        clear HN0 bs
        obtain ⟨j, s, bs, fs, out, beg, hj, rfl, hz, hst, hBI, hB⟩ := hrel
        have HZ := hid hz
        have HI := hid hBI
        have HK := hid hB
        have HJ := hid hst
        clear hz hBI hB hst
        generalize u17 = vo at *
        generalize u18 = vb at *
        have hj1 : (j : Int) ≤ 100 := by omega
        by_cases hlt : j < len0
        · obtain ⟨g, off, rfl, _, hc⟩ := (HR0.out.kept (Wrote.of_below HK.out.fr.below (fun _ => False)) fun _ _ _ h => h).at (by omega)
          have c0 := hc j hlt
          generalize zs0.getD j 0 = z at c0
          clear hc
          have i1 : (0 : Int) ≤ (j : Int) := by omega
          have i2 : (j : Int) < (len0 : Int) := by omega
          obtain ⟨k, hk3', hkk⟩ := pick_ofN 3 (by omega) (by omega) z
          have hk3 : k < 3 := by omega
          go_upto_region 19 with fail
          rw [hkk]
          clear c0 hkk i1
          have k1 : (0 : Int) ≤ (k : Int) := by omega
          have k2 : (k : Int) < 3 := by omega
          obtain ⟨_, b1, _, _, bf⟩ := HK.out.bb.facts hk3
          obtain ⟨fs2, hfs2⟩ : ∃ fs2 : Nat → Int, fs2 = if (bs k).s = 0 then updA fs k (s.vAt (wordK K)) else fs := ⟨_, rfl⟩
          have HFS := hid hfs2
          go_upto_if 62 with fail
          go_cut [] (fun W => BpAt w q b vw c vr s t qb bs qf fs2 vo vb out beg W)
          case first =>
            by_cases h0 : (bs k).s = 0
            · have h0b : ((bs k).s == 0) = true := by simp [h0]
              have HF2 := hid (show fs2 = updA fs k (s.vAt (wordK K)) from by rw [HFS.out, if_pos h0])
              clear hfs2
              obtain ⟨f0, ff⟩ := HK.out.ff.facts hk3
              have HPK := hid (fun (x : World) (hm : Mem x w.heap.size b vw s) => Peek_at (wordK K) x _ b vw s hm)
              generalize wordK K = p at *
              generalize (bs k).s = st at *
              go_wp2_with (go_at_call 24; (with_reducible refine (HPK.out _ HK.out.mem).mono ?_); rintro e w5 ⟨rfl, rfl⟩)
              go_meet
              case rel => rw [HF2.out]; exact HK.out.setF hk3 _
            · have h0b : ((bs k).s == 0) = false := by simp [h0]
              have HF2 := hid (show fs2 = fs from by rw [HFS.out, if_neg h0])
              clear hfs2
              generalize (bs k).s = st at *
              go_wp2_with fail
              go_meet
              case rel => rw [HF2.out]; exact HK.out
          case rest =>
          clear HK b1 bf hfs2
          have HK := hid hcut
          clear hcut
          obtain ⟨st0, hst0⟩ : ∃ st0, s.steps = st0 := ⟨_, rfl⟩
          have HST0 := hid hst0
          clear hst0
          go_upto_region 22 with (go_at_call 44; (with_reducible refine (Steps_any _ _ _ _ _ HK.out.mem).mono ?_); rw [HST0.out]; rintro e w6 ⟨rfl, rfl⟩)
          have HSTP := hid (fun (x : World) (hm : Mem x w.heap.size b vw s) => Step_any mp4 (bs k) x _ b vw s hm (by rw [mp4_size, HZ.out]; decide))
          have HBST := hid (BI.step HK3.out HZ.out (by omega) HI.out hk3 HFS.out)
          clear HI HFS
          generalize (bumpF mp4 s (bs k)).1 = g at *
          generalize (bumpF mp4 s (bs k)).2 = s2 at *
          obtain ⟨h1, hh1⟩ : ∃ h1, bs k = h1 := ⟨_, rfl⟩
          have HBK := hid hh1
          simp only [hh1] at HSTP
          clear hh1
          obtain ⟨hk, hs, hx, hp⟩ := h1
          obtain ⟨gk, gs, gx, gp⟩ := g
          have hne1 : Nonempty (Sat (BpCells q qb k ⟨hk, hs, hx, hp⟩)) := ⟨⟨_, by have hc := HK.out.cells hk3; rw [HBK.out] at hc; exact hc⟩⟩
          have hne2 : Nonempty (Sat (fun _ => True)) := ⟨⟨w, trivial⟩⟩
          have y0 := fun (x : Sat (BpCells q qb k ⟨hk, hs, hx, hp⟩)) => x.p.1
          have y1 := fun (x : Sat (BpCells q qb k ⟨hk, hs, hx, hp⟩)) => x.p.2.1
          have y2 := fun (x : Sat (BpCells q qb k ⟨hk, hs, hx, hp⟩)) => x.p.2.2.1
          have y3 := fun (x : Sat (BpCells q qb k ⟨hk, hs, hx, hp⟩)) => x.p.2.2.2.1
          have y4 := fun (x : Sat (BpCells q qb k ⟨hk, hs, hx, hp⟩)) => x.p.2.2.2.2.1
          have y5 := fun (x : Sat (BpCells q qb k ⟨hk, hs, hx, hp⟩)) => x.p.2.2.2.2.2.1
          have y6 := fun (x : Sat (BpCells q qb k ⟨hk, hs, hx, hp⟩)) => x.p.2.2.2.2.2.2.1
          have y7 := fun (x : Sat (BpCells q qb k ⟨hk, hs, hx, hp⟩)) => x.p.2.2.2.2.2.2.2.1
          have y8 := fun (x : Sat (BpCells q qb k ⟨hk, hs, hx, hp⟩)) => x.p.2.2.2.2.2.2.2.2
          refine wp_region_staged (BpD w q b vw c vr s s2 t qb bs k ⟨gk, gs, gx, gp⟩ qf fs2 vo vb out beg) (by kernel_rfl) (by kernel_rfl) (fun L hL => BpD.start hL HK.out) ?_
          refine wpS_plain (fun _ => True) (fun _ _ _ _ _ => trivial) (fun _ _ h => h) rfl rfl ?_
          intro KK hKK
          go_big_quiet_op
          go_big_quiet_on
          refine wpS_plain (BpCells q qb k ⟨hk, hs, hx, hp⟩) (fun L W hL hcl hd => by have h := hcl.no hL (j := 6) (by kernel_rfl); have h8 := hcl.no h (j := 8) (by kernel_rfl); have hc := BpD.reads hd h8 hk3; rw [HBK.out] at hc; exact hc) (fun _ _ h => h) rfl rfl ?_
          intro KK hKK
          go_big_quiet_op
          go_big_quiet_on
          refine wpS_plain (fun _ => True) (fun _ _ _ _ _ => trivial) (fun _ _ h => h) rfl rfl ?_
          intro KK hKK
          go_big_quiet_op
          go_big_quiet_on
          refine wpS_plain (fun _ => True) (fun _ _ _ _ _ => trivial) (fun _ _ h => h) rfl rfl ?_
          intro KK hKK
          go_big_quiet_op
          go_big_quiet_on
          refine wpS_plain (fun _ => True) (fun _ _ _ _ _ => trivial) (fun _ _ h => h) rfl rfl ?_
          intro KK hKK
          go_big_quiet_op
          go_big_quiet_on
          refine wpS_plain (BpCells q qb k ⟨hk, hs, hx, hp⟩) (fun L W hL hcl hd => by have h := hcl.no hL (j := 6) (by kernel_rfl); have h8 := hcl.no h (j := 8) (by kernel_rfl); have hc := BpD.reads hd h8 hk3; rw [HBK.out] at hc; exact hc) (fun _ _ h => h) rfl rfl ?_
          intro KK hKK
          go_big_quiet_op
          go_big_quiet_on
          refine wpS_call 13 #[(PM.v mp4), .pointer (some ⟨b, 0, none⟩), (BD.mk hk hs hx hp).v] (BD.mk gk gs gx gp).v rfl (fun _ => by go_simp) ?_ ?_
          · intro L W hL hcl hd
            have hd1 := BpD.at6 hd hL
            refine (HSTP.out _ hd1.mem).mono ?_
            rintro e w'' ⟨rfl, hm, hw⟩
            exact ⟨rfl, BpD.one6 (hd1.one hm hw)⟩
          (try simp only [Act.put, List.getElem_toArray, List.getElem_cons_zero, List.getElem_cons_succ, List.setIfInBounds_toArray, List.set_cons_zero, List.set_cons_succ])
          refine wpS_plain (fun _ => True) (fun _ _ _ _ _ => trivial) (fun _ _ h => h) rfl rfl ?_
          intro KK hKK
          go_big_quiet_op
          go_big_quiet_on
          refine wpS_store rfl ?_ ?_
          · intro L W hL hcl hd
            have hd1 := BpD.at8 hd hL
            obtain ⟨e0, e1, e2, e3, ef⟩ := hd1.bb.facts hk3
            exact ⟨_, by go_simp, BpD.put8 hd hL hk3⟩
          (try simp only [Act.put, List.getElem_toArray, List.getElem_cons_zero, List.getElem_cons_succ, List.setIfInBounds_toArray, List.set_cons_zero, List.set_cons_succ])
          intro L W hall hd0
          have HK9 := hid (BpD.end_ hall hd0)
          clear hd0 hall y0 y1 y2 y3 y4 y5 y6 y7 y8 hne1 hne2 HK HSTP
          have hsw : wrap64 (st0 + 1) = st0 + 1 := by
            have h1 := HJ.out
            have h2 := HST0.out
            exact wrap_near (by omega) (by omega)
          have HS2 := hid (show Calls Try.prog 44 #[.pointer (some ⟨b, 0, none⟩)] W fun e w' => e = .returned (.int .i64 (st0 + 1)) ∧ W = w' from by
            have := Steps_any W _ b vw s2 HK9.out.mem
            rwa [HBST.out.steps, HST0.out, hsw] at this)
          obtain ⟨_, b1, _, _, bf⟩ := HK9.out.bb.facts hk3
          rw [updA_at] at b1
          by_cases h9 : gs = 9
          · subst h9
            have HFIN := hid (HBST.out.fin rfl)
            go_upto_region 26 with (go_at_call 44; (with_reducible refine HS2.out.mono ?_); rintro e w6 ⟨rfl, rfl⟩)
            clear b1 bf HS2
            have HGP := hid (show (updA bs k (BD.mk gk 9 gx gp)) k = ⟨gk, 9, gx, gp⟩ from updA_at _ _ _)
            have HBN := hid (show updA (updA bs k (BD.mk gk 9 gx gp)) k ⟨K, 0, 0, 0⟩ = updA bs k ⟨K, 0, 0, 0⟩ from funext fun j => by
              by_cases e : j = k
              · rw [e, updA_at, updA_at]
              · rw [updA_ne e, updA_ne e, updA_ne e])
            generalize updA bs k (BD.mk gk 9 gx gp) = bs2 at *
            have HK := HK9
            clear HK9
            obtain ⟨x1, hx1⟩ : ∃ x1, fs2 k = x1 := ⟨_, rfl⟩
            have HX1 := hid hx1
            rw [hx1] at HFIN
            clear hx1
            have HCL := hid (fun (vo vb : Value) (out beg : List Int) (Z : World) (h : BpAt w q b vw c vr s2 t qb bs2 qf fs2 vo vb out beg Z) => (show Z.cell? ⟨qb, k * 4 + 3, none⟩ = some (.int .i64 gp) ∧ Z.cell? ⟨qf, k, none⟩ = some (.int .i64 x1) from by
              obtain ⟨_, _, _, a3, _⟩ := h.bb.facts hk3
              obtain ⟨a4, _⟩ := h.ff.facts hk3
              rw [HGP.out] at a3
              rw [HX1.out] at a4
              exact ⟨a3, a4⟩))
            have HLB := hid (show out.length ≤ 200 ∧ beg.length ≤ 200 from by
              have h1 := HFIN.out.few
              have h2 := HFIN.out.len
              simp at h1 h2
              omega)
            go_cut [17, 18] (fun v17 v18 W => BpAt w q b vw c vr s2 t qb bs2 qf fs2 v17 v18 (out ++ [gp]) (beg ++ [x1]) W)
            case first =>
              apply with_tail4 (R := fun va vd Z => BpAt w q b vw c vr s2 t qb bs2 qf fs2 va vd (out ++ [gp]) (beg ++ [x1]) Z)
              case h1 =>
                intro tail
                have HN0 := hid (⟨HK.out.later (bdrew (bid _)), trivial, trivial⟩ : ApAt w q b vw c vr s2 t qb bs2 qf fs2 vo vb out beg none none _)
                have hS := (HCL.out _ _ _ _ _ HN0.out.bp)
                refine wp_region_noPanic ?_
                refine wp_region_held_drew (S := (fun w' => w'.cell? ⟨qb, k * 4 + 3, none⟩ = some (.int .i64 gp) ∧ w'.cell? ⟨qf, k, none⟩ = some (.int .i64 x1))) (by kernel_rfl) hS (fun hHeld => ?_)
                clear hS
                refine wpAnyH_take (i := 0) (v := ?_) rfl (by kernel_rfl) (by kernel_rfl) (by kernel_rfl) (fun _ _ _ h => h) (Or.inl ⟨by rfl, ?_⟩) (by assumption) ?_
                rotate_left
                · (intro w' hSw; (try dsimp only at hSw); go_simp; try (with_reducible rfl))
                (try simp only [Act.put, List.getElem_toArray, List.getElem_cons_zero, List.getElem_cons_succ, List.setIfInBounds_toArray, List.set_cons_zero, List.set_cons_succ])
                refine wpAnyH_take (i := 1) (v := ?_) rfl (by kernel_rfl) (by kernel_rfl) (by kernel_rfl) (fun _ _ _ h => h) (Or.inl ⟨by rfl, ?_⟩) (by assumption) ?_
                rotate_left
                · (intro w' hSw; (try dsimp only at hSw); go_simp; try (with_reducible rfl))
                (try simp only [Act.put, List.getElem_toArray, List.getElem_cons_zero, List.getElem_cons_succ, List.setIfInBounds_toArray, List.set_cons_zero, List.set_cons_succ])
                refine wpAnyH_take (i := 2) (v := ?_) rfl (by kernel_rfl) (by kernel_rfl) (by kernel_rfl) (fun _ _ _ h => h) (Or.inl ⟨by rfl, ?_⟩) (by assumption) ?_
                rotate_left
                · (intro w' hSw; (try dsimp only at hSw); go_simp; try (with_reducible rfl))
                (try simp only [Act.put, List.getElem_toArray, List.getElem_cons_zero, List.getElem_cons_succ, List.setIfInBounds_toArray, List.set_cons_zero, List.set_cons_succ])
                refine wpAnyH_take (i := 3) (v := ?_) rfl (by kernel_rfl) (by kernel_rfl) (by kernel_rfl) (fun _ _ _ h => h) (Or.inl ⟨by rfl, ?_⟩) (by assumption) ?_
                rotate_left
                · (intro w' hSw; (try dsimp only at hSw); go_simp; try (with_reducible rfl))
                (try simp only [Act.put, List.getElem_toArray, List.getElem_cons_zero, List.getElem_cons_succ, List.setIfInBounds_toArray, List.set_cons_zero, List.set_cons_succ])
                refine wpAnyH_take (i := 4) (v := ?_) rfl (by kernel_rfl) (by kernel_rfl) (by kernel_rfl) (fun _ _ _ h => h) (Or.inl ⟨by rfl, ?_⟩) (by assumption) ?_
                rotate_left
                · (intro w' hSw; (try dsimp only at hSw); go_simp; try (with_reducible rfl))
                (try simp only [Act.put, List.getElem_toArray, List.getElem_cons_zero, List.getElem_cons_succ, List.setIfInBounds_toArray, List.set_cons_zero, List.set_cons_succ])
                refine wpAnyH_take (i := 7) (v := ?_) rfl (by kernel_rfl) (by kernel_rfl) (by kernel_rfl) (fun _ _ _ h => h) (Or.inl ⟨by rfl, ?_⟩) (by assumption) ?_
                rotate_left
                · (intro w' hSw; (try dsimp only at hSw); go_simp; try (with_reducible rfl))
                (try simp only [Act.put, List.getElem_toArray, List.getElem_cons_zero, List.getElem_cons_succ, List.setIfInBounds_toArray, List.set_cons_zero, List.set_cons_succ])
                refine wpAnyH_take (i := 8) (v := ?_) rfl (by kernel_rfl) (by kernel_rfl) (by kernel_rfl) (fun _ _ _ h => h) (Or.inl ⟨by rfl, ?_⟩) (by assumption) ?_
                rotate_left
                · (intro w' hSw; (try dsimp only at hSw); go_simp; try (with_reducible rfl))
                (try simp only [Act.put, List.getElem_toArray, List.getElem_cons_zero, List.getElem_cons_succ, List.setIfInBounds_toArray, List.set_cons_zero, List.set_cons_succ])
                refine wpAnyH_take (i := 9) (v := ?_) rfl (by kernel_rfl) (by kernel_rfl) (by kernel_rfl) (fun _ _ _ h => h) (Or.inl ⟨by rfl, ?_⟩) (by assumption) ?_
                rotate_left
                · (intro w' hSw; (try dsimp only at hSw); go_simp; try (with_reducible rfl))
                (try simp only [Act.put, List.getElem_toArray, List.getElem_cons_zero, List.getElem_cons_succ, List.setIfInBounds_toArray, List.set_cons_zero, List.set_cons_succ])
                refine wpAnyH_take (i := 10) (v := ?_) rfl (by kernel_rfl) (by kernel_rfl) (by kernel_rfl) (fun _ _ _ h => h) (Or.inl ⟨by rfl, ?_⟩) (by assumption) ?_
                rotate_left
                · (intro w' hSw; (try dsimp only at hSw); go_simp; try (with_reducible rfl))
                (try simp only [Act.put, List.getElem_toArray, List.getElem_cons_zero, List.getElem_cons_succ, List.setIfInBounds_toArray, List.set_cons_zero, List.set_cons_succ])
                clear hHeld
                refine rename_to (ApAt w q b vw c vr s2 t qb bs2 qf fs2 vo vb out beg none none) HN0.out ?_
                clear HN0
                intro Z hn
                have HN := hid hn
                clear hn
                refine wpAnyH_ready (rs := [5, 11]) (by kernel_rfl) (by simp) (AllReadyH.cons rfl (fun KK hK => ?_) (AllReadyH.cons rfl (fun KK hK => ?_) AllReadyH.nil))
                · have hnew := HN.out.newA gp
                  clear HN
                  go_simp
                  generalize Z.heap.size = ga at hnew ⊢
                  have HN := hid hnew
                  clear hnew
                  refine hK.out _ _ (HCL.out _ _ _ _ _ HN.out.bp) (fun hHeld => ?_)
                  clear hK KK hHeld
                  (try simp only [Act.put, List.getElem_toArray, List.getElem_cons_zero, List.getElem_cons_succ, List.setIfInBounds_toArray, List.set_cons_zero, List.set_cons_succ])
                  refine rename_to (ApAt w q b vw c vr s2 t qb bs2 qf fs2 vo vb out beg (some (ga, gp)) none) HN.out ?_
                  clear HN
                  intro Z hn
                  have HN := hid hn
                  clear hn
                  refine wpAnyH_ready (rs := [6, 11]) (by kernel_rfl) (by simp) (AllReadyH.cons rfl (fun KK hK => ?_) (AllReadyH.cons rfl (fun KK hK => ?_) AllReadyH.nil))
                  · refine wp_append_jl (.tmp 88) (.tmp 93) rfl rfl HN.out.bp.outs [gp] rfl (One.news HN.out.a) rfl (by have := HLB.out; simp; omega) HN.out.bp.fr.below.size ?_
                    intro va w9 hil hwr how hnn
                    have HN1 := hid (HN.out.appA hil hwr how)
                    clear hil hwr how hnn HN
                    have HN := HN1
                    clear HN1
                    refine hK.out _ _ (HCL.out _ _ _ _ _ HN.out.bp) (fun hHeld => ?_)
                    clear hK KK hHeld
                    (try simp only [Act.put, List.getElem_toArray, List.getElem_cons_zero, List.getElem_cons_succ, List.setIfInBounds_toArray, List.set_cons_zero, List.set_cons_succ])
                    refine rename_to (ApAt w q b vw c vr s2 t qb bs2 qf fs2 va vb (out ++ [gp]) beg none none) HN.out ?_
                    clear HN
                    intro Z hn
                    have HN := hid hn
                    clear hn
                    refine wpAnyH_ready (rs := [11]) (by kernel_rfl) (by simp) (AllReadyH.cons rfl (fun KK hK => ?_) AllReadyH.nil)
                    have hnew := HN.out.newB x1
                    clear HN
                    go_simp
                    generalize Z.heap.size = gb at hnew ⊢
                    have HN := hid hnew
                    clear hnew
                    refine hK.out _ _ (HCL.out _ _ _ _ _ HN.out.bp) (fun hHeld => ?_)
                    clear hK KK hHeld
                    (try simp only [Act.put, List.getElem_toArray, List.getElem_cons_zero, List.getElem_cons_succ, List.setIfInBounds_toArray, List.set_cons_zero, List.set_cons_succ])
                    refine rename_to (ApAt w q b vw c vr s2 t qb bs2 qf fs2 va vb (out ++ [gp]) beg none (some (gb, x1))) HN.out ?_
                    clear HN
                    intro Z hn
                    have HN := hid hn
                    clear hn
                    refine wpAnyH_ready (rs := [12]) (by kernel_rfl) (by simp) (AllReadyH.cons rfl (fun KK hK => ?_) AllReadyH.nil)
                    refine wp_append_jl (.tmp 95) (.tmp 99) rfl rfl HN.out.bp.begs [x1] rfl (One.news HN.out.b) rfl (by have := HLB.out; simp; omega) HN.out.bp.fr.below.size ?_
                    intro vd w9 hil hwr how hnn
                    have HN1 := hid (HN.out.appB hil hwr how)
                    clear hil hwr how hnn HN
                    have HN := HN1
                    clear HN1
                    refine hK.out _ _ (HCL.out _ _ _ _ _ HN.out.bp) (fun hHeld => ?_)
                    clear hK KK hHeld
                    (try simp only [Act.put, List.getElem_toArray, List.getElem_cons_zero, List.getElem_cons_succ, List.setIfInBounds_toArray, List.set_cons_zero, List.set_cons_succ])
                    refine rename_to (ApAt w q b vw c vr s2 t qb bs2 qf fs2 va vd (out ++ [gp]) (beg ++ [x1]) none none) HN.out ?_
                    clear HN
                    intro Z hn
                    have HN := hid hn
                    clear hn
                    exact tail ga gb va vd Z HN.out.bp
                  · have hnew := HN.out.newB x1
                    clear HN
                    go_simp
                    generalize Z.heap.size = gb at hnew ⊢
                    have HN := hid hnew
                    clear hnew
                    refine hK.out _ _ (HCL.out _ _ _ _ _ HN.out.bp) (fun hHeld => ?_)
                    clear hK KK hHeld
                    (try simp only [Act.put, List.getElem_toArray, List.getElem_cons_zero, List.getElem_cons_succ, List.setIfInBounds_toArray, List.set_cons_zero, List.set_cons_succ])
                    refine rename_to (ApAt w q b vw c vr s2 t qb bs2 qf fs2 vo vb out beg (some (ga, gp)) (some (gb, x1))) HN.out ?_
                    clear HN
                    intro Z hn
                    have HN := hid hn
                    clear hn
                    refine wpAnyH_ready (rs := [6]) (by kernel_rfl) (by simp) (AllReadyH.cons rfl (fun KK hK => ?_) AllReadyH.nil)
                    refine wp_append_jl (.tmp 88) (.tmp 93) rfl rfl HN.out.bp.outs [gp] rfl (One.news HN.out.a) rfl (by have := HLB.out; simp; omega) HN.out.bp.fr.below.size ?_
                    intro va w9 hil hwr how hnn
                    have HN1 := hid (HN.out.appA hil hwr how)
                    clear hil hwr how hnn HN
                    have HN := HN1
                    clear HN1
                    refine hK.out _ _ (HCL.out _ _ _ _ _ HN.out.bp) (fun hHeld => ?_)
                    clear hK KK hHeld
                    (try simp only [Act.put, List.getElem_toArray, List.getElem_cons_zero, List.getElem_cons_succ, List.setIfInBounds_toArray, List.set_cons_zero, List.set_cons_succ])
                    refine rename_to (ApAt w q b vw c vr s2 t qb bs2 qf fs2 va vb (out ++ [gp]) beg none (some (gb, x1))) HN.out ?_
                    clear HN
                    intro Z hn
                    have HN := hid hn
                    clear hn
                    refine wpAnyH_ready (rs := [12]) (by kernel_rfl) (by simp) (AllReadyH.cons rfl (fun KK hK => ?_) AllReadyH.nil)
                    refine wp_append_jl (.tmp 95) (.tmp 99) rfl rfl HN.out.bp.begs [x1] rfl (One.news HN.out.b) rfl (by have := HLB.out; simp; omega) HN.out.bp.fr.below.size ?_
                    intro vd w9 hil hwr how hnn
                    have HN1 := hid (HN.out.appB hil hwr how)
                    clear hil hwr how hnn HN
                    have HN := HN1
                    clear HN1
                    refine hK.out _ _ (HCL.out _ _ _ _ _ HN.out.bp) (fun hHeld => ?_)
                    clear hK KK hHeld
                    (try simp only [Act.put, List.getElem_toArray, List.getElem_cons_zero, List.getElem_cons_succ, List.setIfInBounds_toArray, List.set_cons_zero, List.set_cons_succ])
                    refine rename_to (ApAt w q b vw c vr s2 t qb bs2 qf fs2 va vd (out ++ [gp]) (beg ++ [x1]) none none) HN.out ?_
                    clear HN
                    intro Z hn
                    have HN := hid hn
                    clear hn
                    exact tail ga gb va vd Z HN.out.bp
                · have hnew := HN.out.newB x1
                  clear HN
                  go_simp
                  generalize Z.heap.size = gb at hnew ⊢
                  have HN := hid hnew
                  clear hnew
                  refine hK.out _ _ (HCL.out _ _ _ _ _ HN.out.bp) (fun hHeld => ?_)
                  clear hK KK hHeld
                  (try simp only [Act.put, List.getElem_toArray, List.getElem_cons_zero, List.getElem_cons_succ, List.setIfInBounds_toArray, List.set_cons_zero, List.set_cons_succ])
                  refine rename_to (ApAt w q b vw c vr s2 t qb bs2 qf fs2 vo vb out beg none (some (gb, x1))) HN.out ?_
                  clear HN
                  intro Z hn
                  have HN := hid hn
                  clear hn
                  refine wpAnyH_ready (rs := [5]) (by kernel_rfl) (by simp) (AllReadyH.cons rfl (fun KK hK => ?_) AllReadyH.nil)
                  have hnew := HN.out.newA gp
                  clear HN
                  go_simp
                  generalize Z.heap.size = ga at hnew ⊢
                  have HN := hid hnew
                  clear hnew
                  refine hK.out _ _ (HCL.out _ _ _ _ _ HN.out.bp) (fun hHeld => ?_)
                  clear hK KK hHeld
                  (try simp only [Act.put, List.getElem_toArray, List.getElem_cons_zero, List.getElem_cons_succ, List.setIfInBounds_toArray, List.set_cons_zero, List.set_cons_succ])
                  refine rename_to (ApAt w q b vw c vr s2 t qb bs2 qf fs2 vo vb out beg (some (ga, gp)) (some (gb, x1))) HN.out ?_
                  clear HN
                  intro Z hn
                  have HN := hid hn
                  clear hn
                  refine wpAnyH_ready (rs := [6]) (by kernel_rfl) (by simp) (AllReadyH.cons rfl (fun KK hK => ?_) AllReadyH.nil)
                  refine wp_append_jl (.tmp 88) (.tmp 93) rfl rfl HN.out.bp.outs [gp] rfl (One.news HN.out.a) rfl (by have := HLB.out; simp; omega) HN.out.bp.fr.below.size ?_
                  intro va w9 hil hwr how hnn
                  have HN1 := hid (HN.out.appA hil hwr how)
                  clear hil hwr how hnn HN
                  have HN := HN1
                  clear HN1
                  refine hK.out _ _ (HCL.out _ _ _ _ _ HN.out.bp) (fun hHeld => ?_)
                  clear hK KK hHeld
                  (try simp only [Act.put, List.getElem_toArray, List.getElem_cons_zero, List.getElem_cons_succ, List.setIfInBounds_toArray, List.set_cons_zero, List.set_cons_succ])
                  refine rename_to (ApAt w q b vw c vr s2 t qb bs2 qf fs2 va vb (out ++ [gp]) beg none (some (gb, x1))) HN.out ?_
                  clear HN
                  intro Z hn
                  have HN := hid hn
                  clear hn
                  refine wpAnyH_ready (rs := [12]) (by kernel_rfl) (by simp) (AllReadyH.cons rfl (fun KK hK => ?_) AllReadyH.nil)
                  refine wp_append_jl (.tmp 95) (.tmp 99) rfl rfl HN.out.bp.begs [x1] rfl (One.news HN.out.b) rfl (by have := HLB.out; simp; omega) HN.out.bp.fr.below.size ?_
                  intro vd w9 hil hwr how hnn
                  have HN1 := hid (HN.out.appB hil hwr how)
                  clear hil hwr how hnn HN
                  have HN := HN1
                  clear HN1
                  refine hK.out _ _ (HCL.out _ _ _ _ _ HN.out.bp) (fun hHeld => ?_)
                  clear hK KK hHeld
                  (try simp only [Act.put, List.getElem_toArray, List.getElem_cons_zero, List.getElem_cons_succ, List.setIfInBounds_toArray, List.set_cons_zero, List.set_cons_succ])
                  refine rename_to (ApAt w q b vw c vr s2 t qb bs2 qf fs2 va vd (out ++ [gp]) (beg ++ [x1]) none none) HN.out ?_
                  clear HN
                  intro Z hn
                  have HN := hid hn
                  clear hn
                  exact tail ga gb va vd Z HN.out.bp
              case h2 =>
                intro ga gb va vd Z hn
                have HN := hid hn
                clear hn
                refine wpAnyH_take (i := 13) (v := ?_) rfl (by kernel_rfl) (by kernel_rfl) (by kernel_rfl) (fun _ _ _ h => h) (Or.inl ⟨by rfl, ?_⟩) (HCL.out _ _ _ _ _ HN.out) ?_
                rotate_left
                · (intro w' hSw; (try dsimp only at hSw); go_simp; try (with_reducible rfl))
                (try simp only [Act.put, List.getElem_toArray, List.getElem_cons_zero, List.getElem_cons_succ, List.setIfInBounds_toArray, List.set_cons_zero, List.set_cons_succ])
                refine wpAnyH_take (i := 14) (v := ?_) rfl (by kernel_rfl) (by kernel_rfl) (by kernel_rfl) (fun _ _ _ h => h) (Or.inl ⟨by rfl, ?_⟩) (HCL.out _ _ _ _ _ HN.out) ?_
                rotate_left
                · (intro w' hSw; (try dsimp only at hSw); go_simp; try (with_reducible rfl))
                (try simp only [Act.put, List.getElem_toArray, List.getElem_cons_zero, List.getElem_cons_succ, List.setIfInBounds_toArray, List.set_cons_zero, List.set_cons_succ])
                refine wpAnyH_done (by kernel_rfl) ?_ _
                refine NoPanic.normal ?_
                go_wp2_with fail
                go_meet
                case rel => exact HN.out
            case rest =>
            clear HK HCL HLB
            have HK := hid hcut
            clear hcut
            go_upto_region 17 with (go_at_call 20; (with_reducible refine (HSA.out _).mono ?_); rintro e w5 ⟨rfl, hb5⟩; have HK5 := hid (HK.out.later hb5); obtain ⟨e0, e1, e2, e3, ef⟩ := HK5.out.bb.facts hk3; clear hb5)
            refine wp_rename (fun W' => BpAt w q b vw c vr s2 t qb (updA bs k ⟨K, 0, 0, 0⟩) qf fs2 u17 u18 (out ++ [gp]) (beg ++ [x1]) W') (by have h := HK5.out.setB hk3 ⟨K, 0, 0, 0⟩; rw [HBN.out] at h; exact h) ?_
            clear HK HK5 e0 e1 e2 e3 ef
            intro W5 hk5
            have HK := hid hk5
            clear hk5
            go_wp2_with fail
            go_roundw
            case rel =>
              repeat apply Exists.intro
              refine ⟨⟨j + 1, s2, _, _, _, _, by omega, by go_num, HBST.out.len, by rw [HBST.out.steps, HST0.out, hsw]; have h1 := HJ.out; have h2 := HST0.out; omega, HFIN.out, HK.out⟩, ?_⟩
              rfl
            case measure => simp [intOf]; omega
          · have h9b : (gs == 9) = false := by simp [h9]
            have HMID := hid (HBST.out.mid h9)
            go_wp2_with (go_at_call 44; (with_reducible refine HS2.out.mono ?_); rintro e w6 ⟨rfl, rfl⟩)
            go_roundw
            case rel =>
              repeat apply Exists.intro
              refine ⟨⟨j + 1, s2, _, _, _, _, by omega, by go_num, HBST.out.len, by rw [HBST.out.steps, HST0.out, hsw]; have h1 := HJ.out; have h2 := HST0.out; omega, HMID.out, HK9.out⟩, ?_⟩
              rfl
            case measure => simp [intOf]; omega
        · obtain rfl : j = len0 := by omega
          have HPK := hid (fun (x : World) (hm : Mem x w.heap.size b vw s) => Peek_at (wordK K) x _ b vw s hm)
          have HI2 := hid (show ∃ bs fs, BI K (s.vAt (wordK K)) j bs fs out beg from ⟨_, _, HI.out⟩)
          clear HI
          generalize s.vAt (wordK K) = v at *
          generalize wordK K = p at *
          go_wp2_with (go_at_call 24; (with_reducible refine (HPK.out _ HK.out.mem).mono ?_); rintro e w5 ⟨rfl, rfl⟩)
          refine bodyPost_ret (v := .tuple #[vo, vb, .int .i64 v, .bool true]) (by simp [results, Try.results23, go_sem]) rfl ?_
          obtain ⟨bs', fs', hbi⟩ := HI2.out
          exact ⟨_, _, _, _, _, _, _, rfl, hbi, HK.out.outs, HK.out.begs, HK.out.fr.below⟩

end Go.Proofs.Ytkfajeimfpbfdaa
