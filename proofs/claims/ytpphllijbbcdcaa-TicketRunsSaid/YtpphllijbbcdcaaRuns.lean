/-
  TicketRuns: hand by hand both locks do the same, and one at most holds it.
-/
import Derived.Test.YtpphllijbbcdcaaRun
import Derived.Test.YtpphllijbbcdcaaStage
namespace Go.Proofs.Ytpphllijbbcdcaa
open Go.RowKit
attribute [local go_sem] Later.cell Later.frozen

/-- The stages of a round: the two calls (7, 14), the two stores (16, 18). -/
def RunD (w : World) (q qa qb b : Nat) (vw : Value) (c : Nat) (vr : Value) (s s' : MS) (hs : Nat → HD) (k : Nat) (g : HD) (L : Nat → Bool) (W : World) : Prop :=
  RunAt w q qa qb b vw c vr (bif L 7 then s' else s) (bif L 14 then s' else s) (bif L 16 then upd hs k g else hs) (bif L 18 then upd hs k g else hs) W
section
variable {w : World} {q qa qb b : Nat} {vw : Value} {c : Nat} {vr : Value} {s s' : MS} {hs : Nat → HD} {k : Nat} {g : HD} {L : Nat → Bool} {W : World}
theorem RunD.start (hL : ∀ j, L j = false) (h : RunAt w q qa qb b vw c vr s s hs hs W) : RunD w q qa qb b vw c vr s s' hs k g L W.drew := by
  unfold RunD; rw [hL 7, hL 14, hL 16, hL 18]; exact h.drew
theorem RunD.reads (h : RunD w q qa qb b vw c vr s s' hs k g L W) (h16 : L 16 = false) (h18 : L 18 = false) : ∃ s t, RunAt w q qa qb b vw c vr s t hs hs W := by
  unfold RunD at h; rw [h16, h18] at h; exact ⟨_, _, h⟩
theorem RunD.at7 (h : RunD w q qa qb b vw c vr s s' hs k g L W) (hL : L 7 = false) : RunAt w q qa qb b vw c vr s (bif L 14 then s' else s) (bif L 16 then upd hs k g else hs) (bif L 18 then upd hs k g else hs) W := by
  unfold RunD at h; rw [hL] at h; exact h
theorem RunD.at14 (h : RunD w q qa qb b vw c vr s s' hs k g L W) (hL : L 14 = false) : RunAt w q qa qb b vw c vr (bif L 7 then s' else s) s (bif L 16 then upd hs k g else hs) (bif L 18 then upd hs k g else hs) W := by
  unfold RunD at h; rw [hL] at h; exact h
theorem RunD.at16 (h : RunD w q qa qb b vw c vr s s' hs k g L W) (hL : L 16 = false) : RunAt w q qa qb b vw c vr (bif L 7 then s' else s) (bif L 14 then s' else s) hs (bif L 18 then upd hs k g else hs) W := by
  unfold RunD at h; rw [hL] at h; exact h
theorem RunD.at18 (h : RunD w q qa qb b vw c vr s s' hs k g L W) (hL : L 18 = false) : RunAt w q qa qb b vw c vr (bif L 7 then s' else s) (bif L 14 then s' else s) (bif L 16 then upd hs k g else hs) hs W := by
  unfold RunD at h; rw [hL] at h; exact h
theorem RunD.end_ (hall : ∀ j, j < 19 → L j = true) (h : RunD w q qa qb b vw c vr s s' hs k g L W) : RunAt w q qa qb b vw c vr s' s' (upd hs k g) (upd hs k g) W := by
  unfold RunD at h; rw [hall 7 (by decide), hall 14 (by decide), hall 16 (by decide), hall 18 (by decide)] at h; exact h
end

/-- What the loop over the picks keeps. -/
def RunsAt (w : World) (q qa qb b : Nat) (vw : Value) (c : Nat) (vr : Value) (n : Int) (W : World) : Prop :=
  ∃ s hs, TInv 1 11 12 n s hs ∧ RunAt w q qa qb b vw c vr s s hs hs W

theorem u64_low (n : Int) : 0 ≤ IntKind.u64.wrap n := by
  rw [IntKind.wrap_u64]
  omega
theorem pick_k (z : Int) : ∃ k : Nat, k < 4 ∧ wrap64 ((IntKind.u64.wrap z).tmod 4) = (k : Int) := by
  have h := u64_low z
  generalize IntKind.u64.wrap z = u at *
  have e : u.tmod 4 = u % 4 := Int.tmod_eq_emod_of_nonneg h
  rw [e, wrap_small (by omega) (by omega)]
  exact ⟨(u % 4).toNat, by omega, by omega⟩

/-- All that the two calls of a round read, in the world as it stands. -/
theorem RunAt.reads {w : World} {q qa qb b : Nat} {vw : Value} {c : Nat} {vr : Value} {s t : MS} {hs : Nat → HD} {W : World} (h : RunAt w q qa qb b vw c vr s t hs hs W) {k : Nat} (hk : k < 4) :
    (W.cell? ⟨q, 0, none⟩ = some (.int .i64 2) ∧ W.cell? ⟨q, 1, none⟩ = some (.int .i64 2) ∧ W.cell? ⟨q, 2, none⟩ = some (.int .i64 4) ∧ W.cell? ⟨q, 3, none⟩ = some (.int .i64 0) ∧ W.cell? ⟨q, 4, none⟩ = some (.int .i64 2) ∧ W.cell? ⟨qa, k * 5, none⟩ = some (.int .i64 (hs k).t) ∧ W.cell? ⟨qa, k * 5 + 1, none⟩ = some (.int .i64 (hs k).l) ∧ W.cell? ⟨qa, k * 5 + 2, none⟩ = some (.int .i64 (hs k).s) ∧ W.cell? ⟨qa, k * 5 + 3, none⟩ = some (.bool (hs k).rd) ∧ W.cell? ⟨qa, k * 5 + 4, none⟩ = some (.int .i64 (hs k).x) ∧ W.cell? ⟨qb, k * 5, none⟩ = some (.int .i64 (hs k).t) ∧ W.cell? ⟨qb, k * 5 + 1, none⟩ = some (.int .i64 (hs k).l) ∧ W.cell? ⟨qb, k * 5 + 2, none⟩ = some (.int .i64 (hs k).s) ∧ W.cell? ⟨qb, k * 5 + 3, none⟩ = some (.bool (hs k).rd) ∧ W.cell? ⟨qb, k * 5 + 4, none⟩ = some (.int .i64 (hs k).x)) := by
  obtain ⟨m0, m1, m2, m3, m4, _⟩ := h.map.facts
  obtain ⟨e0, e1, e2, e3, e4, _⟩ := h.ah.facts hk
  obtain ⟨f0, f1, f2, f3, f4, _⟩ := h.bh.facts hk
  exact ⟨m0, m1, m2, m3, m4, e0, e1, e2, e3, e4, f0, f1, f2, f3, f4⟩

theorem RunAt.satReads {w : World} {q qa qb b : Nat} {vw : Value} {c : Nat} {vr : Value} {hs : Nat → HD} (x : Sat (fun W => ∃ s t, RunAt w q qa qb b vw c vr s t hs hs W)) {k : Nat} (hk : k < 4) :
    (x.v.cell? ⟨q, 0, none⟩ = some (.int .i64 2) ∧ x.v.cell? ⟨q, 1, none⟩ = some (.int .i64 2) ∧ x.v.cell? ⟨q, 2, none⟩ = some (.int .i64 4) ∧ x.v.cell? ⟨q, 3, none⟩ = some (.int .i64 0) ∧ x.v.cell? ⟨q, 4, none⟩ = some (.int .i64 2) ∧ x.v.cell? ⟨qa, k * 5, none⟩ = some (.int .i64 (hs k).t) ∧ x.v.cell? ⟨qa, k * 5 + 1, none⟩ = some (.int .i64 (hs k).l) ∧ x.v.cell? ⟨qa, k * 5 + 2, none⟩ = some (.int .i64 (hs k).s) ∧ x.v.cell? ⟨qa, k * 5 + 3, none⟩ = some (.bool (hs k).rd) ∧ x.v.cell? ⟨qa, k * 5 + 4, none⟩ = some (.int .i64 (hs k).x) ∧ x.v.cell? ⟨qb, k * 5, none⟩ = some (.int .i64 (hs k).t) ∧ x.v.cell? ⟨qb, k * 5 + 1, none⟩ = some (.int .i64 (hs k).l) ∧ x.v.cell? ⟨qb, k * 5 + 2, none⟩ = some (.int .i64 (hs k).s) ∧ x.v.cell? ⟨qb, k * 5 + 3, none⟩ = some (.bool (hs k).rd) ∧ x.v.cell? ⟨qb, k * 5 + 4, none⟩ = some (.int .i64 (hs k).x)) := by
  obtain ⟨v, p⟩ := x
  obtain ⟨s1, t1, h⟩ := p
  exact h.reads hk

def RunsRel (w : World) (q qa qb b : Nat) (vw : Value) (c : Nat) (vr : Value) (len0 : Nat) (i : Value) (W : World) : Prop := ∃ j : Nat, j ≤ len0 ∧ i = .int .i64 j ∧ RunsAt w q qa qb b vw c vr j W
theorem RunsAt.intro {w : World} {q qa qb b : Nat} {vw : Value} {c : Nat} {vr : Value} {W : World} (h : RunAt w q qa qb b vw c vr (MS.new (zrow 48)) (MS.new (zrow 48)) (first 1 4) (first 1 4) W) : RunsAt w q qa qb b vw c vr 0 W :=
  ⟨_, _, inv_start 1 11 12 (by decide) (by decide) (by decide) (by decide) (by decide) (by decide) (by decide), h⟩

set_option maxRecDepth 100000 in
set_option maxHeartbeats 8000000 in
theorem runs_any (a0 : Option Addr) (len0 cap0 : Nat) (zs0 : List Int) (w : World) (hr0 : IntRow w a0 len0 zs0) (hl0 : len0 ≤ maxLen) :
    Calls Try.prog 4 #[.slice a0 len0 cap0] w fun e w' => e = .returned (.bool true) ∧ Below w.heap.size w w' := by
  unfold maxLen at hl0
  have HR0 := hid hr0
  clear hr0
  by_cases hlen : 200 < len0
  · go_enter Try.func4, Try.ntmps4
    go_wp2_with (go_at_call 21; (with_reducible refine (told8_any _).mono ?_); rintro e w1 ⟨rfl, hb1⟩)
    go_ret
    exact ⟨rfl, hb1⟩
  have HBO := hid (fun (x : World) => (show Calls Try.prog 8 #[mp4.v] x (MadeBoth 48 x) from by have := Both_any mp4 x mp4_ok; rwa [mp4_size] at this))
  go_enter Try.func4, Try.ntmps4
  go_upto_region 4 with (go_at_call 7; (with_reducible refine (Map_any _).mono ?_); rintro e w1 ⟨rfl, hb1⟩; have HB1 := hid hb1; clear hb1)
  refine wp_rename (fun W => MapAt 26 W w1.heap.size mp4 ∧ Below w.heap.size w W) ⟨MapAt.new _ w1 mp4, bnew HB1.out _⟩ ?_
  have hq0 := HB1.out.size
  generalize w1.heap.size = q at hq0 ⊢
  clear HB1
  rintro W ⟨hk, hb⟩
  have HK := hid hk
  have HB := hid hb
  obtain ⟨m0, m1, m2, m3, m4, _⟩ := hk.facts
  clear hk hb
  go_upto_region 8 with (go_at_call 8; (with_reducible refine (HBO.out _).mono ?_); rintro e w2 ⟨b, vw, c, vr, rfl, hp, hb2⟩; have HP := hid hp; have HB2 := hid hb2; clear hp hb2)
  refine wp_rename (fun W' => RunAt w q w2.heap.size (w2.heap.size + 1) b vw c vr (MS.new (zrow 48)) (MS.new (zrow 48)) (fun _ => h0) (fun _ => h0) W') ?_ ?_
  · have h1 := FourAt.new w2
    have h2 := FourAt.new (w2.alloc (.cells four0 54))
    rw [size_alloc1] at h2
    have hq1 := HK.out.lt
    have hq2 := HB2.out.size
    have hq3 := HB.out.size
    have hbb := bnew (bnew (bid w2) (.cells four0 54)) (.cells four0 54)
    refine ⟨(HK.out.below HB2.out).below hbb, ((HP.out.mono hq3).below hbb), h1.below (bnew (bid _) _), h2, fun j hj => ?_, ⟨by omega, by omega, by omega⟩, ⟨hq0, by omega, by omega⟩, bthen (bthen HB.out HB2.out) hbb⟩
    have hy := HP.out.young j hj
    refine ⟨fun e => ?_, by omega, by omega⟩
    subst e
    exact HP.out.old _ hq1 hj
  generalize w2.heap.size = qa
  generalize qa + 1 = qb
  clear HP HB2 HB HK HBO m0 m1 m2 m3 m4 hq0
  intro W3 hk
  have HK := hid hk
  clear hk
  go_wp2_with fail
  go_loopw [8] (fun i W => ∃ k : Nat, k ≤ 4 ∧ i = .int .i64 k ∧ RunAt w q qa qb b vw c vr (MS.new (zrow 48)) (MS.new (zrow 48)) (first 1 k) (first 1 k) W) (fun i _ => 4 - (intOf i).toNat)
  case atStart => exact ⟨0, by omega, rfl, by rw [first_zero]; exact HK.out⟩
  case round =>
    clear HK
    obtain ⟨k, hk, rfl, hr⟩ := hrel
    have HK := hid hr
    clear hr
    by_cases hlt : k < 4
    · have i1 : (0 : Int) ≤ (k : Int) := by omega
      have i2 : (k : Int) < 4 := by omega
      obtain ⟨e0, e1, e2, e3, e4, ef⟩ := HK.out.ah.facts hlt
      go_upto_region 12 with fail
      refine wp_rename (fun W => RunAt w q qa qb b vw c vr (MS.new (zrow 48)) (MS.new (zrow 48)) (first 1 (k + 1)) (first 1 k) W) (by have h := HK.out.setA hlt ⟨k, 1, 0, false, 0⟩; rw [first_succ] at h; exact h) ?_
      clear e0 e1 e2 e3 e4 ef HK
      intro W4 hk4
      have HK := hid hk4
      clear hk4
      have hfk : first 1 (k + 1) k = ⟨k, 1, 0, false, 0⟩ := by unfold first; rw [if_pos (by omega)]
      obtain ⟨e0, e1, e2, e3, e4, ef⟩ := HK.out.ah.facts hlt
      rw [hfk] at e0 e1 e2 e3 e4
      simp only at e0 e1 e2 e3 e4
      obtain ⟨f0, f1, f2, f3, f4, ff⟩ := HK.out.bh.facts hlt
      clear hfk
      go_upto_region 10 with fail
      refine wp_rename (fun W => RunAt w q qa qb b vw c vr (MS.new (zrow 48)) (MS.new (zrow 48)) (first 1 (k + 1)) (first 1 (k + 1)) W) (by have h := HK.out.setB hlt ⟨k, 1, 0, false, 0⟩; rw [first_succ] at h; exact h) ?_
      clear e0 e1 e2 e3 e4 ef HK f0 f1 f2 f3 f4 ff
      intro W5 hk5
      have HK := hid hk5
      clear hk5
      go_wp2_with fail
      go_roundw
      case rel => exact ⟨k + 1, by omega, by go_num, HK.out⟩
      case measure => simp [intOf]; omega
    · obtain rfl : k = 4 := by omega
      go_wp2_with fail
      have HN0 := hid (RunsAt.intro HK.out)
      clear HK hlt hk
      go_loopw [9] (fun i W => RunsRel w q qa qb b vw c vr len0 i W) (fun i _ => len0 - (intOf i).toNat)
      case atStart => exact ⟨0, by omega, rfl, HN0.out⟩
      case round =>
        clear HN0
        obtain ⟨j, hj, rfl, s, hs, hT, hR⟩ := hrel
        have HT := hid hT
        have HK := hid hR
        clear hT hR
        by_cases hlt : j < len0
        · obtain ⟨g, off, rfl, _, hc⟩ := (HR0.out.kept (Wrote.of_below HK.out.below (fun _ => False)) fun _ _ _ h => h).at (by omega)
          have c0 := hc j hlt
          generalize zs0.getD j 0 = z at c0
          clear hc
          have i1 : (0 : Int) ≤ (j : Int) := by omega
          have i2 : (j : Int) < (len0 : Int) := by omega
          go_upto_region 17 with fail
          obtain ⟨k, hk4, hkk⟩ := pick_k z
          rw [hkk]
          clear hkk
          have k1 : (0 : Int) ≤ (k : Int) := by omega
          have k2 : (k : Int) < 4 := by omega
          go_cut [65] (fun v W => (∃ B : Bool, v = .bool B ∧ (B = true → (hs k).s = 9)) ∧ W = wr)
          case first =>
            obtain ⟨e0, e1, e2, e3, e4, ef⟩ := HK.out.ah.facts hk4
            cases hb : ((hs k).s == 9)
            · go_wp2_with fail
              go_meet
              case rel => exact ⟨⟨false, rfl, fun h => by cases h⟩, rfl⟩
            · have HB := hid (show (hs k).s = 9 from by simpa using hb)
              go_wp2_with fail
              go_meet
              case rel => exact ⟨⟨_, rfl, fun _ => HB.out⟩, rfl⟩
          case rest =>
            obtain ⟨⟨B, rfl, hB⟩, rfl⟩ := hcut
            have HBB := hid hB
            clear hB
            go_upto_if 65 with fail
            go_cut [] (fun W => RunsAt w q qa qb b vw c vr (j + 1) W)
            case first =>
              have HTK := hid (fun (x : World) (hm : Mem x w.heap.size b vw s) => Take_any mp4 (hs k) x _ b vw s hm (by rw [mp4_size, HT.out.len]; decide) mp4_ok)
              have HRT := hid (fun (x : World) (hm : Ref x w.heap.size c vr s) => rTake_any mp4 (hs k) x _ c vr s hm)
              have HDR := hid (fun (x : World) (hm : Mem x w.heap.size b vw s) => Drop_any mp4 (hs k) x _ b vw s hm (by rw [mp4_size, HT.out.len]; decide) mp4_ok)
              have HRD := hid (fun (x : World) (hm : Ref x w.heap.size c vr s) => rDrop_any mp4 (hs k) x _ c vr s hm)
              have hne1 : Nonempty (Sat (fun W => ∃ s t, RunAt w q qa qb b vw c vr s t hs hs W)) := ⟨⟨_, _, _, HK.out⟩⟩
              have hne2 : Nonempty (Sat (fun _ => True)) := ⟨⟨w, trivial⟩⟩
              have hcells := fun (x : Sat (fun W => ∃ s t, RunAt w q qa qb b vw c vr s t hs hs W)) => RunAt.satReads x hk4
              have y0 := fun x => (hcells x).1
              have y1 := fun x => (hcells x).2.1
              have y2 := fun x => (hcells x).2.2.1
              have y3 := fun x => (hcells x).2.2.2.1
              have y4 := fun x => (hcells x).2.2.2.2.1
              have y5 := fun x => (hcells x).2.2.2.2.2.1
              have y6 := fun x => (hcells x).2.2.2.2.2.2.1
              have y7 := fun x => (hcells x).2.2.2.2.2.2.2.1
              have y8 := fun x => (hcells x).2.2.2.2.2.2.2.2.1
              have y9 := fun x => (hcells x).2.2.2.2.2.2.2.2.2.1
              have y10 := fun x => (hcells x).2.2.2.2.2.2.2.2.2.2.1
              have y11 := fun x => (hcells x).2.2.2.2.2.2.2.2.2.2.2.1
              have y12 := fun x => (hcells x).2.2.2.2.2.2.2.2.2.2.2.2.1
              have y13 := fun x => (hcells x).2.2.2.2.2.2.2.2.2.2.2.2.2.1
              have y14 := fun x => (hcells x).2.2.2.2.2.2.2.2.2.2.2.2.2.2
              clear hcells
              cases B
              · go_upto_region 19 with fail
                refine wp_region_staged (RunD w q qa qb b vw c vr s (tkTake mp4 s (hs k)).2 hs k (tkTake mp4 s (hs k)).1) (by kernel_rfl) (by kernel_rfl) (fun L hL => RunD.start hL HK.out) ?_
                refine wpS_plain (fun _ => True) (fun _ _ _ _ _ => trivial) (fun _ _ h => h) rfl rfl ?_
                intro KK hKK
                go_big_quiet_op
                go_big_quiet_on
                refine wpS_plain (fun _ => True) (fun _ _ _ _ _ => trivial) (fun _ _ h => h) rfl rfl ?_
                intro KK hKK
                go_big_quiet_op
                go_big_quiet_on
                refine wpS_plain (fun W => ∃ s t, RunAt w q qa qb b vw c vr s t hs hs W) (fun L W hL hcl hd => by have h := hcl.no hL (j := 7) (by kernel_rfl); have h := hcl.no h (j := 9) (by kernel_rfl); have h := hcl.no h (j := 14) (by kernel_rfl); have h16 := hcl.no h (j := 16) (by kernel_rfl); have h18 := hcl.no h16 (j := 18) (by kernel_rfl); exact RunD.reads hd h16 h18) (fun _ _ h => h) rfl rfl ?_
                intro KK hKK
                go_big_quiet_op
                go_big_quiet_on
                refine wpS_plain (fun _ => True) (fun _ _ _ _ _ => trivial) (fun _ _ h => h) rfl rfl ?_
                intro KK hKK
                go_big_quiet_op
                go_big_quiet_on
                refine wpS_plain (fun _ => True) (fun _ _ _ _ _ => trivial) (fun _ _ h => h) rfl rfl ?_
                intro KK hKK
                go_big_quiet_op
                go_big_quiet_on
                refine wpS_plain (fun _ => True) (fun _ _ _ _ _ => trivial) (fun _ _ h => h) rfl rfl ?_
                intro KK hKK
                go_big_quiet_op
                go_big_quiet_on
                refine wpS_plain (fun W => ∃ s t, RunAt w q qa qb b vw c vr s t hs hs W) (fun L W hL hcl hd => by have h := hcl.no hL (j := 7) (by kernel_rfl); have h := hcl.no h (j := 9) (by kernel_rfl); have h := hcl.no h (j := 14) (by kernel_rfl); have h16 := hcl.no h (j := 16) (by kernel_rfl); have h18 := hcl.no h16 (j := 18) (by kernel_rfl); exact RunD.reads hd h16 h18) (fun _ _ h => h) rfl rfl ?_
                intro KK hKK
                go_big_quiet_op
                go_big_quiet_on
                refine wpS_call 14 #[(PM.v mp4), .pointer (some ⟨b, 0, none⟩), (hs k).v] (tkTake mp4 s (hs k)).1.v rfl (fun _ => by go_simp) ?_ ?_
                · intro L W hL hcl hd
                  have hd1 := RunD.at7 hd hL
                  refine (HTK.out _ hd1.pair.mem).mono ?_
                  rintro e w'' ⟨rfl, hm, hw⟩
                  exact ⟨rfl, hd1.one hm hw⟩
                (try simp only [Act.put, List.getElem_toArray, List.getElem_cons_zero, List.getElem_cons_succ, List.setIfInBounds_toArray, List.set_cons_zero, List.set_cons_succ])
                refine wpS_plain (fun W => ∃ s t, RunAt w q qa qb b vw c vr s t hs hs W) (fun L W hL hcl hd => by have h := hcl.no hL (j := 9) (by kernel_rfl); have h := hcl.no h (j := 14) (by kernel_rfl); have h16 := hcl.no h (j := 16) (by kernel_rfl); have h18 := hcl.no h16 (j := 18) (by kernel_rfl); exact RunD.reads hd h16 h18) (fun _ _ h => h) rfl rfl ?_
                intro KK hKK
                go_big_quiet_op
                go_big_quiet_on
                refine wpS_call 10 #[(PM.v mp4)] (PM.v mp4) rfl (fun _ => by go_simp) ?_ ?_
                · intro L W hL hcl hd
                  refine (pRef_any mp4 W).mono ?_
                  rintro e w'' ⟨rfl, hb⟩
                  exact ⟨rfl, RunAt.later hd hb⟩
                (try simp only [Act.put, List.getElem_toArray, List.getElem_cons_zero, List.getElem_cons_succ, List.setIfInBounds_toArray, List.set_cons_zero, List.set_cons_succ])
                refine wpS_plain (fun _ => True) (fun _ _ _ _ _ => trivial) (fun _ _ h => h) rfl rfl ?_
                intro KK hKK
                go_big_quiet_op
                go_big_quiet_on
                refine wpS_plain (fun _ => True) (fun _ _ _ _ _ => trivial) (fun _ _ h => h) rfl rfl ?_
                intro KK hKK
                go_big_quiet_op
                go_big_quiet_on
                refine wpS_plain (fun _ => True) (fun _ _ _ _ _ => trivial) (fun _ _ h => h) rfl rfl ?_
                intro KK hKK
                go_big_quiet_op
                go_big_quiet_on
                refine wpS_plain (fun W => ∃ s t, RunAt w q qa qb b vw c vr s t hs hs W) (fun L W hL hcl hd => by have h := hcl.no hL (j := 14) (by kernel_rfl); have h16 := hcl.no h (j := 16) (by kernel_rfl); have h18 := hcl.no h16 (j := 18) (by kernel_rfl); exact RunD.reads hd h16 h18) (fun _ _ h => h) rfl rfl ?_
                intro KK hKK
                go_big_quiet_op
                go_big_quiet_on
                refine wpS_call 15 #[(PM.v mp4), .pointer (some ⟨c, 0, none⟩), (hs k).v] (tkTake mp4 s (hs k)).1.v rfl (fun _ => by go_simp) ?_ ?_
                · intro L W hL hcl hd
                  have hd1 := RunD.at14 hd hL
                  refine (HRT.out _ hd1.pair.ref).mono ?_
                  rintro e w'' ⟨rfl, hm, hw⟩
                  exact ⟨rfl, hd1.two hm hw⟩
                (try simp only [Act.put, List.getElem_toArray, List.getElem_cons_zero, List.getElem_cons_succ, List.setIfInBounds_toArray, List.set_cons_zero, List.set_cons_succ])
                refine wpS_plain (fun _ => True) (fun _ _ _ _ _ => trivial) (fun _ _ h => h) rfl rfl ?_
                intro KK hKK
                go_big_quiet_op
                go_big_quiet_on
                refine wpS_store rfl ?_ ?_
                · intro L W hL hcl hd
                  have hd1 := RunD.at16 hd hL
                  obtain ⟨e0, e1, e2, e3, e4, ef⟩ := hd1.ah.facts hk4
                  exact ⟨_, by go_simp, hd1.setA hk4 (tkTake mp4 s (hs k)).1⟩
                (try simp only [Act.put, List.getElem_toArray, List.getElem_cons_zero, List.getElem_cons_succ, List.setIfInBounds_toArray, List.set_cons_zero, List.set_cons_succ])
                refine wpS_plain (fun _ => True) (fun _ _ _ _ _ => trivial) (fun _ _ h => h) rfl rfl ?_
                intro KK hKK
                go_big_quiet_op
                go_big_quiet_on
                refine wpS_store rfl ?_ ?_
                · intro L W hL hcl hd
                  have hd1 := RunD.at18 hd hL
                  obtain ⟨e0, e1, e2, e3, e4, ef⟩ := hd1.bh.facts hk4
                  exact ⟨_, by go_simp, hd1.setB hk4 (tkTake mp4 s (hs k)).1⟩
                (try simp only [Act.put, List.getElem_toArray, List.getElem_cons_zero, List.getElem_cons_succ, List.setIfInBounds_toArray, List.set_cons_zero, List.set_cons_succ])
                intro L W hall hd
                have HK9 := hid (RunD.end_ hall hd)
                go_wp2_with fail
                go_meet
                case rel => exact ⟨_, _, HT.out.take hk4 (by omega), HK9.out⟩
              · go_upto_region 18 with fail
                refine wp_region_staged (RunD w q qa qb b vw c vr s (tkDrop mp4 s (hs k)).2 hs k (tkDrop mp4 s (hs k)).1) (by kernel_rfl) (by kernel_rfl) (fun L hL => RunD.start hL HK.out) ?_
                refine wpS_plain (fun _ => True) (fun _ _ _ _ _ => trivial) (fun _ _ h => h) rfl rfl ?_
                intro KK hKK
                go_big_quiet_op
                go_big_quiet_on
                refine wpS_plain (fun _ => True) (fun _ _ _ _ _ => trivial) (fun _ _ h => h) rfl rfl ?_
                intro KK hKK
                go_big_quiet_op
                go_big_quiet_on
                refine wpS_plain (fun W => ∃ s t, RunAt w q qa qb b vw c vr s t hs hs W) (fun L W hL hcl hd => by have h := hcl.no hL (j := 7) (by kernel_rfl); have h := hcl.no h (j := 9) (by kernel_rfl); have h := hcl.no h (j := 14) (by kernel_rfl); have h16 := hcl.no h (j := 16) (by kernel_rfl); have h18 := hcl.no h16 (j := 18) (by kernel_rfl); exact RunD.reads hd h16 h18) (fun _ _ h => h) rfl rfl ?_
                intro KK hKK
                go_big_quiet_op
                go_big_quiet_on
                refine wpS_plain (fun _ => True) (fun _ _ _ _ _ => trivial) (fun _ _ h => h) rfl rfl ?_
                intro KK hKK
                go_big_quiet_op
                go_big_quiet_on
                refine wpS_plain (fun _ => True) (fun _ _ _ _ _ => trivial) (fun _ _ h => h) rfl rfl ?_
                intro KK hKK
                go_big_quiet_op
                go_big_quiet_on
                refine wpS_plain (fun _ => True) (fun _ _ _ _ _ => trivial) (fun _ _ h => h) rfl rfl ?_
                intro KK hKK
                go_big_quiet_op
                go_big_quiet_on
                refine wpS_plain (fun W => ∃ s t, RunAt w q qa qb b vw c vr s t hs hs W) (fun L W hL hcl hd => by have h := hcl.no hL (j := 7) (by kernel_rfl); have h := hcl.no h (j := 9) (by kernel_rfl); have h := hcl.no h (j := 14) (by kernel_rfl); have h16 := hcl.no h (j := 16) (by kernel_rfl); have h18 := hcl.no h16 (j := 18) (by kernel_rfl); exact RunD.reads hd h16 h18) (fun _ _ h => h) rfl rfl ?_
                intro KK hKK
                go_big_quiet_op
                go_big_quiet_on
                refine wpS_call 19 #[(PM.v mp4), .pointer (some ⟨b, 0, none⟩), (hs k).v] (tkDrop mp4 s (hs k)).1.v rfl (fun _ => by go_simp) ?_ ?_
                · intro L W hL hcl hd
                  have hd1 := RunD.at7 hd hL
                  refine (HDR.out _ hd1.pair.mem).mono ?_
                  rintro e w'' ⟨rfl, hm, hw⟩
                  exact ⟨rfl, hd1.one hm hw⟩
                (try simp only [Act.put, List.getElem_toArray, List.getElem_cons_zero, List.getElem_cons_succ, List.setIfInBounds_toArray, List.set_cons_zero, List.set_cons_succ])
                refine wpS_plain (fun W => ∃ s t, RunAt w q qa qb b vw c vr s t hs hs W) (fun L W hL hcl hd => by have h := hcl.no hL (j := 9) (by kernel_rfl); have h := hcl.no h (j := 14) (by kernel_rfl); have h16 := hcl.no h (j := 16) (by kernel_rfl); have h18 := hcl.no h16 (j := 18) (by kernel_rfl); exact RunD.reads hd h16 h18) (fun _ _ h => h) rfl rfl ?_
                intro KK hKK
                go_big_quiet_op
                go_big_quiet_on
                refine wpS_call 10 #[(PM.v mp4)] (PM.v mp4) rfl (fun _ => by go_simp) ?_ ?_
                · intro L W hL hcl hd
                  refine (pRef_any mp4 W).mono ?_
                  rintro e w'' ⟨rfl, hb⟩
                  exact ⟨rfl, RunAt.later hd hb⟩
                (try simp only [Act.put, List.getElem_toArray, List.getElem_cons_zero, List.getElem_cons_succ, List.setIfInBounds_toArray, List.set_cons_zero, List.set_cons_succ])
                refine wpS_plain (fun _ => True) (fun _ _ _ _ _ => trivial) (fun _ _ h => h) rfl rfl ?_
                intro KK hKK
                go_big_quiet_op
                go_big_quiet_on
                refine wpS_plain (fun _ => True) (fun _ _ _ _ _ => trivial) (fun _ _ h => h) rfl rfl ?_
                intro KK hKK
                go_big_quiet_op
                go_big_quiet_on
                refine wpS_plain (fun _ => True) (fun _ _ _ _ _ => trivial) (fun _ _ h => h) rfl rfl ?_
                intro KK hKK
                go_big_quiet_op
                go_big_quiet_on
                refine wpS_plain (fun W => ∃ s t, RunAt w q qa qb b vw c vr s t hs hs W) (fun L W hL hcl hd => by have h := hcl.no hL (j := 14) (by kernel_rfl); have h16 := hcl.no h (j := 16) (by kernel_rfl); have h18 := hcl.no h16 (j := 18) (by kernel_rfl); exact RunD.reads hd h16 h18) (fun _ _ h => h) rfl rfl ?_
                intro KK hKK
                go_big_quiet_op
                go_big_quiet_on
                refine wpS_call 20 #[(PM.v mp4), .pointer (some ⟨c, 0, none⟩), (hs k).v] (tkDrop mp4 s (hs k)).1.v rfl (fun _ => by go_simp) ?_ ?_
                · intro L W hL hcl hd
                  have hd1 := RunD.at14 hd hL
                  refine (HRD.out _ hd1.pair.ref).mono ?_
                  rintro e w'' ⟨rfl, hm, hw⟩
                  exact ⟨rfl, hd1.two hm hw⟩
                (try simp only [Act.put, List.getElem_toArray, List.getElem_cons_zero, List.getElem_cons_succ, List.setIfInBounds_toArray, List.set_cons_zero, List.set_cons_succ])
                refine wpS_plain (fun _ => True) (fun _ _ _ _ _ => trivial) (fun _ _ h => h) rfl rfl ?_
                intro KK hKK
                go_big_quiet_op
                go_big_quiet_on
                refine wpS_store rfl ?_ ?_
                · intro L W hL hcl hd
                  have hd1 := RunD.at16 hd hL
                  obtain ⟨e0, e1, e2, e3, e4, ef⟩ := hd1.ah.facts hk4
                  exact ⟨_, by go_simp, hd1.setA hk4 (tkDrop mp4 s (hs k)).1⟩
                (try simp only [Act.put, List.getElem_toArray, List.getElem_cons_zero, List.getElem_cons_succ, List.setIfInBounds_toArray, List.set_cons_zero, List.set_cons_succ])
                refine wpS_plain (fun _ => True) (fun _ _ _ _ _ => trivial) (fun _ _ h => h) rfl rfl ?_
                intro KK hKK
                go_big_quiet_op
                go_big_quiet_on
                refine wpS_store rfl ?_ ?_
                · intro L W hL hcl hd
                  have hd1 := RunD.at18 hd hL
                  obtain ⟨e0, e1, e2, e3, e4, ef⟩ := hd1.bh.facts hk4
                  exact ⟨_, by go_simp, hd1.setB hk4 (tkDrop mp4 s (hs k)).1⟩
                (try simp only [Act.put, List.getElem_toArray, List.getElem_cons_zero, List.getElem_cons_succ, List.setIfInBounds_toArray, List.set_cons_zero, List.set_cons_succ])
                intro L W hall hd
                have HK9 := hid (RunD.end_ hall hd)
                go_wp2_with fail
                go_meet
                case rel => exact ⟨_, _, HT.out.drop hk4 (by first | exact HBB.out | exact HBB.out trivial | exact HBB.out rfl) (by omega), HK9.out⟩
            case rest =>
              clear HK HT HBB i1 i2 k1 k2 c0
              obtain ⟨s', hs', hT, hR⟩ := hcut
              have HT := hid hT
              have HK := hid hR
              clear hT hR
              go_upto_region 22 with fail
              go_loopw [11, 12] (fun h i W => ∃ n : Nat, n ≤ 4 ∧ i = .int .i64 n ∧ h = .int .i64 (heldN hs' n) ∧ RunAt w q qa qb b vw c vr s' s' hs' hs' W) (fun _ i _ => 4 - (intOf i).toNat)
              case atStart => exact ⟨0, by omega, rfl, rfl, HK.out⟩
              case round =>
                clear HK
                obtain ⟨n, hn, rfl, rfl, hR⟩ := hrel
                have HK := hid hR
                clear hR
                have hle := heldN_le hs' n
                by_cases hn4 : n < 4
                · have n1 : (0 : Int) ≤ (n : Int) := by omega
                  have n2 : (n : Int) < 4 := by omega
                  obtain ⟨e0, e1, e2, e3, e4, ef⟩ := HK.out.ah.facts hn4
                  obtain ⟨f0, f1, f2, f3, f4, ff⟩ := HK.out.bh.facts hn4
                  have hne := neq_hand
                  have hg := guard_hand
                  have hsame : sameH ⟨(hs' n).t, (hs' n).l, (hs' n).s, (hs' n).rd, (hs' n).x⟩ ⟨(hs' n).t, (hs' n).l, (hs' n).s, (hs' n).rd, (hs' n).x⟩ = true := sameH_refl _
                  have HH := hid (show heldN hs' (n + 1) = heldN hs' n + if (hs' n).s = 9 then 1 else 0 from rfl)
                  generalize heldN hs' n = hd at *
                  go_upto_region 24 with fail
                  go_quiet (fail)
                  by_cases h9 : (hs' n).s = 9
                  · go_wp2_with fail
                    go_roundw
                    case rel => exact ⟨n + 1, by omega, by go_num, by rw [HH.out, if_pos h9]; go_num, HK.out.drewN _⟩
                    case measure => simp [intOf]; omega
                  · go_wp2_with fail
                    go_roundw
                    case rel => exact ⟨n + 1, by omega, by go_num, by rw [HH.out, if_neg h9]; go_num, HK.out.drewN _⟩
                    case measure => simp [intOf]; omega
                · obtain rfl : n = 4 := by omega
                  have hone := HT.out.one
                  generalize heldN hs' 4 = hd at *
                  go_wp2_with (go_at_call 25; (with_reducible refine (Like_yes _ _ _ _ _ _ _ HK.out.pair).mono ?_); rintro e w9 ⟨rfl, hb9⟩; have HK9 := hid (HK.out.later hb9); clear hb9)
                  go_roundw
                  case rel =>
                    repeat apply Exists.intro
                    exact ⟨⟨j + 1, by omega, by go_num, _, _, HT.out.mono (by omega), HK9.out⟩, rfl⟩
                  case measure => simp [intOf]; omega
        · obtain rfl : j = len0 := by omega
          go_wp2_with (first | (go_at_call 21; (with_reducible refine (told8_any _).mono ?_); rintro e w7 ⟨rfl, hb7⟩; have HK7 := hid (HK.out.later hb7); clear hb7) | (go_at_call 22; (with_reducible refine (Same_yes _ _ _ _ _ _ _ _ _ HK7.out.pair.mem HK7.out.pair.ref rfl (by rw [HT.out.len]; decide)).mono ?_); rintro e w8 ⟨rfl, hb8⟩; have HK8 := hid (HK7.out.later hb8); clear hb8))
          go_ret
          exact ⟨rfl, HK8.out.below⟩

end Go.Proofs.Ytpphllijbbcdcaa
