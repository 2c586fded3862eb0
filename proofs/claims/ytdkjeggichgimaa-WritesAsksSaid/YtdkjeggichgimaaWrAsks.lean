/-
  WritesAsks: its walk.
-/
import Derived.Test.YtdkjeggichgimaaWrLast
import Derived.Test.YtdkjeggichgimaaWrArg
import Derived.Test.YtdkjeggichgimaaStageN
import Derived.Deep.CutBlock
namespace Go.Proofs.Ytdkjeggichgimaa
open Go.RowKit
attribute [local go_sem] Later.cell Later.frozen

/-- Both sets, side by side. -/
structure AwAt (w : World) (b rb R : Nat) (v : Value) (ws1 : List Wd) (n1 : Nat) (ws2 : List Wd) (n2 : Nat) (W : World) : Prop where
  set : WSet W b R ws1 n1
  ref : IsW W w.heap.size rb R v ws2 n2
  young : w.heap.size ≤ b
  ne : b ≠ rb
  apart : v.ownBlock ≠ some b
  below : Below w.heap.size w W
section
variable {w W W' : World} {b rb R : Nat} {v v' : Value} {ws ws1 ws2 : List Wd} {n n1 n2 : Nat}
theorem AwAt.later (h : AwAt w b rb R v ws1 n1 ws2 n2 W) (hb : Below W.heap.size W W') : AwAt w b rb R v ws1 n1 ws2 n2 W' := ⟨h.set.below hb, h.ref.below hb, h.young, h.ne, h.apart, bthen h.below hb⟩
theorem AwAt.putS (h : AwAt w b rb R v ws1 n1 ws2 n2 W) (hs : WSet W' b R ws n) (hw : Wrote (fun j => j = b) W W') : AwAt w b rb R v ws n ws2 n2 W' :=
  ⟨hs, h.ref.kept hw (fun k hk e => by subst e; rcases hk with hk | hk; exact h.ne hk; exact h.apart hk), h.young, h.ne, h.apart, h.below.trans (hw.below h.below.size (fun k hk e => by have := h.young; omega))⟩
theorem AwAt.putR (h : AwAt w b rb R v ws1 n1 ws2 n2 W) (hi : IsW W' w.heap.size rb R v' ws n) (hw : Wrote (fun j => j = rb ∨ v.ownBlock = some j) W W') (hg : ∀ g, v'.ownBlock = some g → v.ownBlock = some g ∨ W.heap.size ≤ g) : AwAt w b rb R v' ws1 n1 ws n W' := by
  refine ⟨h.set.keep (hw.block b h.set.lt fun e => e.elim h.ne h.apart), hi, h.young, h.ne, fun e => ?_, h.below.trans (hw.below h.below.size (fun k hk e => ?_))⟩
  · rcases hg b e with hh | hh
    · exact h.apart hh
    · have := h.set.lt; omega
  · rcases e with e | e
    · have := h.ref.base; omega
    · have := (h.ref.list.old e).1; omega
theorem AwAt.getR (h : AwAt w b rb R v ws1 n1 ws2 n2 W) (hi : IsW W' w.heap.size rb R v ws n) (hw : Wrote (fun j => j = rb) W W') : AwAt w b rb R v ws1 n1 ws n W' :=
  h.putR hi (hw.mono fun _ _ e => .inl e) fun _ hg => .inl hg
theorem AwAt.clearR (h : AwAt w b rb R v ws1 n1 ws2 n2 W) : AwAt w b rb R (.slice none 0 0) ws1 n1 [] 0 ((W.setCell ⟨rb, 2, none⟩ (.slice none 0 0)).setCell ⟨rb, 1, none⟩ (.int .i64 0)) := by
  have hw : Wrote (fun j => j = rb) W ((W.setCell ⟨rb, 2, none⟩ (.slice none 0 0)).setCell ⟨rb, 1, none⟩ (.int .i64 0)) := ((Wrote.refl (fun j => j = rb) W).setCell (fun _ => rfl) _).setCell (fun _ => rfl) _
  exact ⟨h.set.keep (hw.block b h.set.lt h.ne), h.ref.clear, h.young, h.ne, by simp [Value.ownBlock], h.below.trans (hw.below h.below.size (fun k hk e => by have := h.ref.base; omega))⟩
theorem AwAt.new {w1 : World} (hs : WSet w1 b R [] 0) (hy : w.heap.size ≤ b) (hb : Below w.heap.size w w1) : AwAt w b w1.heap.size R (.slice none 0 0) [] 0 [] 0 (w1.alloc (.cells #[.int .i64 R, .int .i64 0, .slice none 0 0] 31)) :=
  ⟨hs.below (bnew (bid w1) _), ⟨heap_alloc_new _ _, WL.nil _ _, by simp [Value.ownBlock], hb.size, hs.room, Nat.zero_le _, fun p h => by simp at h⟩, hy, by have := hs.lt; omega, by simp [Value.ownBlock], bnew hb _⟩
/-- The stages of a Put on both sides. -/
def AwD (w : World) (b rb R : Nat) (v : Value) (ws ws' : List Wd) (n : Nat) (L : Nat → Bool) (W : World) : Prop :=
  ∃ v', (L 15 = false → v' = v) ∧ AwAt w b rb R v' (bif L 7 then ws' else ws) n (bif L 15 then ws' else ws) n W
variable {ws' : List Wd} {L : Nat → Bool}
theorem AwD.start (hL : ∀ j, L j = false) (h : AwAt w b rb R v ws n ws n W) : AwD w b rb R v ws ws' n L W.drew := by
  refine ⟨v, fun _ => rfl, ?_⟩
  rw [hL 7, hL 15]
  exact h.later ⟨rfl, rfl, rfl, Nat.le_refl _, fun _ _ => rfl⟩
theorem AwD.same {k : Nat} (h7 : 7 ≠ k) (h15 : 15 ≠ k) (h : AwD w b rb R v ws ws' n L W) : AwD w b rb R v ws ws' n (bump L k) W := by
  unfold AwD at h ⊢
  rw [bump_ne L h7, bump_ne L h15]
  exact h
theorem AwD.below (h : AwD w b rb R v ws ws' n L W) : Below w.heap.size w W := by obtain ⟨_, _, h⟩ := h; exact h.below
theorem AwD.set (h : AwD w b rb R v ws ws' n L W) (hL : L 7 = false) : WSet W b R ws n := by
  obtain ⟨_, _, h⟩ := h
  have := h.set
  rwa [hL] at this
theorem AwD.putS (h : AwD w b rb R v ws ws' n L W) (hs : WSet W' b R ws' n) (hw : Wrote (fun j => j = b) W W') : AwD w b rb R v ws ws' n (bump L 7) W' := by
  obtain ⟨v', h1, h⟩ := h
  refine ⟨v', by rw [bump_ne L (by decide)]; exact h1, ?_⟩
  rw [bump_at, bump_ne L (show 15 ≠ 7 by decide)]
  exact h.putS hs hw
theorem AwD.ref (h : AwD w b rb R v ws ws' n L W) (hL : L 15 = false) : IsW W w.heap.size rb R v ws n := by
  obtain ⟨v', h1, h⟩ := h
  have := h.ref
  rwa [hL, h1 hL] at this
theorem AwD.putR (h : AwD w b rb R v ws ws' n L W) (hL : L 15 = false) (hi : IsW W' w.heap.size rb R v' ws' n) (hw : Wrote (fun j => j = rb ∨ v.ownBlock = some j) W W') (hg : ∀ g, v'.ownBlock = some g → v.ownBlock = some g ∨ W.heap.size ≤ g) : AwD w b rb R v ws ws' n (bump L 15) W' := by
  obtain ⟨v2, h1, h⟩ := h
  rw [h1 hL] at h
  refine Exists.intro v' (And.intro (fun (h2 : bump L 15 15 = false) => ?_) ?_)
  · rw [bump_at] at h2; cases h2
  · rw [bump_at, bump_ne L (show 7 ≠ 15 by decide)]
    exact h.putR hi hw hg
theorem AwD.all (h : AwD w b rb R v ws ws' n L W) (h7 : L 7 = true) (h15 : L 15 = true) : ∃ v', AwAt w b rb R v' ws' n ws' n W := by
  obtain ⟨v', _, h⟩ := h
  rw [h7, h15] at h
  exact ⟨v', h⟩
end
/-- The same with the list handed out beside it. -/
structure AvAt (w : World) (b rb R : Nat) (v : Value) (ws : List Wd) (n : Nat) (kv : Value) (W : World) : Prop where
  both : AwAt w b rb R v ws n ws n W
  out : WL W w.heap.size kv ws
theorem AvAt.later {w W W' : World} {b rb R : Nat} {v kv : Value} {ws : List Wd} {n : Nat} (h : AvAt w b rb R v ws n kv W) (hb : Below W.heap.size W W') : AvAt w b rb R v ws n kv W' := ⟨h.both.later hb, h.out.below hb⟩
theorem AvAt.new {w W W' : World} {b rb R : Nat} {v kv : Value} {ws : List Wd} {n : Nat} (h : AwAt w b rb R v ws n ws n W) (hk : WL W' W.heap.size kv ws) (hb : Below W.heap.size W W') : AvAt w b rb R v ws n kv W' := ⟨h.later hb, hk.mono h.below.size⟩

set_option maxRecDepth 100000 in
set_option maxHeartbeats 4000000 in
theorem wasks_any (x : Int) (a1 : Option Addr) (len1 cap1 : Nat) (ls : List Tri) (w : World) (hr : TRow w a1 len1 ls) :
    Calls Try.prog 3 #[.int .i64 x, .slice a1 len1 cap1] w fun e w' => e = .returned (.bool true) ∧ Below w.heap.size w w' := by
  have HR0 := hid hr
  have HLEN := hid hr.cnt
  clear hr
  by_cases h1 : (80 : Int) < (len1 : Int)
  · go_enter Try.func3, Try.ntmps3
    go_wp2_with (go_at_call 7; go_must ((with_reducible refine (told14_any _).mono ?_); rintro e w1 ⟨rfl, hb1⟩))
    go_ret
    exact ⟨rfl, hb1⟩
  go_enter Try.func3, Try.ntmps3
  go_upto_region 3 with fail
  go_upto_if 22 with fail
  go_cut [0] (fun v W => (∃ z : Int, v = .int .i64 z) ∧ W = w)
  case first =>
    go_wp2_with fail
    all_goals go_meet
    all_goals exact ⟨⟨_, rfl⟩, rfl⟩
  case rest =>
  obtain ⟨⟨z, rfl⟩, hwc⟩ := hcut
  have hwc := hwc.symm
  subst hwc
  have HNW := hid (wNew_any z w)
  have HCP := hid (fun W => Cap_any z W)
  generalize capF z = R at *
  go_upto_region 6 with (first | (go_at_call 8; go_must ((with_reducible refine HNW.out.mono ?_); rintro e w1 ⟨b, rfl, hwb, hs, hb⟩; have HS := hid hs; have HB := hid (And.intro hwb hb); clear hs hb hwb)) | (go_at_call 9; go_must ((with_reducible refine (HCP.out _).mono ?_); rintro e w2 ⟨rfl, rfl⟩)))
  refine wp_renamed _ (AwAt.new HS.out HB.out.1 HB.out.2) ?_
  generalize w1.heap.size = rb
  clear HS HB HNW HCP
  intro W1 hk
  have HK0 := hid hk
  clear hk
  go_wp2_with fail
  go_loopw [7] (fun i W => ∃ (j : Nat) (v : Value) (ws : List Wd) (n : Nat), j ≤ len1 ∧ n ≤ j ∧ i = .int .i64 j ∧ AwAt w b rb R v ws n ws n W) (fun i _ => len1 - (intOf i).toNat)
  case atStart => exact ⟨0, _, _, _, by omega, Nat.le_refl _, rfl, HK0.out⟩
  case round =>
    clear HK0
    obtain ⟨j, v, ws, n, hj, hnj, rfl, hR⟩ := hrel
    have HK := hid hR
    clear hR
    by_cases hlt : j < len1
    · obtain ⟨p, hp⟩ := tri_at (ps := ls) (k := j) (by rw [HLEN.out]; exact hlt)
      obtain ⟨g, off, rfl, hg, hcs⟩ := (HR0.out.below HK.out.below).at (by omega)
      obtain ⟨cp0, cp1, cp2⟩ := hcs j p hp
      clear hcs
      have hcs := fun (y : Sat (fun W => Below w.heap.size w W)) => (show TAt y.v g (off + j * 3) p from by
        obtain ⟨g', off', e, _, h⟩ := (HR0.out.below y.p).at (by omega)
        simp only [Option.some.injEq, Addr.mk.injEq, and_true] at e
        obtain ⟨rfl, rfl⟩ := e
        exact h j p hp)
      have Y2 := hid (fun y => (hcs y).c2)
      clear hcs hp
      obtain ⟨p1, p2, p3⟩ := p
      have n1 : (0 : Int) ≤ (j : Int) := by omega
      have n2 : (j : Int) < (len1 : Int) := by omega
      go_upto_region 12 with fail
      go_upto_if 49 with fail
      go_cut [8] (fun v W => (∃ z : Int, v = .int .i64 z) ∧ W = wr)
      case first =>
        go_wp2_with fail
        all_goals go_meet
        all_goals exact ⟨⟨_, rfl⟩, rfl⟩
      case rest =>
      obtain ⟨⟨z, rfl⟩, hwc⟩ := hcut
      have hwc := hwc.symm
      subst hwc
      have hu : 0 ≤ IntKind.u64.wrap p1 := by
        simp only [IntKind.wrap, IntKind.signed, Bool.false_and]
        exact Int.emod_nonneg _ (by decide)
      go_upto_region 14 with fail
      go_cut [60] (fun u W => (∃ t : Int, 0 ≤ t ∧ t < 16 ∧ u = .int .u64 t) ∧ W = wr)
      case first =>
        go_wp2_with fail
        go_meet
        case rel => exact ⟨⟨_, by omega, by omega, rfl⟩, rfl⟩
      case rest =>
      obtain ⟨⟨t, t0, t1, rfl⟩, hwc⟩ := hcut
      have hwc := hwc.symm
      subst hwc
      clear cp0 cp1 cp2 hu
      go_upto_block 2 with fail
      go_cut [7] (fun i W => i = .int .i64 j ∧ ∃ (v : Value) (ws : List Wd) (n : Nat), n ≤ j + 1 ∧ AwAt w b rb R v ws n ws n W)
      case first =>
        by_cases e0 : t = 0
        · subst e0
          have HCL := hid (wClear_any b R ws n wr HK.out.set)
          go_upto_region 19 with (go_at_call 10; go_must ((with_reducible refine HCL.out.mono ?_); rintro e w8 ⟨rfl, hs, hw⟩; have HK8 := hid (HK.out.putS hs hw); clear hs hw HCL))
          obtain ⟨r0, r1, r2, rf⟩ := HK8.out.ref.facts
          have g1 := rf 1
          have g2 := rf 2
          clear rf r0
          have HN := hid HK8.out.clearR
          go_wp2_with fail
          go_meet
          case rel => exact ⟨rfl, _, _, _, Nat.zero_le _, HN.out⟩
        · by_cases e6 : t ≤ 6
          · have HGS := hid (fun (W : World) (h : WSet W b R ws n) => (show Calls Try.prog 11 #[.pointer (some ⟨b, 0, none⟩), .int .i64 z] W fun e w' => e = .returned (.tuple #[.int .i64 (valL ws z), .bool (hasL ws z)]) ∧ WSet w' b R ws (askF ws z n) ∧ Wrote (fun j => j = b) W w' from wGet_any z b R ws n W h (by omega)))
            have HGR := hid (fun (W : World) (h : IsW W w.heap.size rb R v ws n) => (show Calls Try.prog 12 #[.pointer (some ⟨rb, 0, none⟩), .int .i64 z] W fun e w' => e = .returned (.tuple #[.int .i64 (valL ws z), .bool (hasL ws z)]) ∧ IsW w' w.heap.size rb R v ws (askF ws z n) ∧ Wrote (fun j => j = rb) W w' from rGet_any z w.heap.size rb R v ws n W h (by omega)))
            have HASK := hid (show askF ws z n ≤ j + 1 from by unfold askF; split <;> omega)
            generalize hasL ws z = hb at *
            generalize valL ws z = vl at *
            generalize askF ws z n = n9 at *
            obtain rfl | rfl | rfl | rfl | rfl | rfl : t = 1 ∨ t = 2 ∨ t = 3 ∨ t = 4 ∨ t = 5 ∨ t = 6 := by omega
            all_goals
              go_wp2_with (first | (go_at_call 11; go_must ((with_reducible refine (HGS.out _ HK.out.set).mono ?_); rintro e w3 ⟨rfl, hs, hw⟩; have HK := hid (HK.out.putS hs hw); clear hs hw)) | (go_at_call 12; go_must ((with_reducible refine (HGR.out _ HK.out.ref).mono ?_); rintro e w4 ⟨rfl, hs, hw⟩; have HK := hid (HK.out.getR hs hw); clear hs hw)))
              go_meet
              case rel => exact ⟨rfl, _, _, _, HASK.out, HK.out⟩
          · have d0 : (t == 0) = false := by simp; omega
            have d1 : (t == 1) = false := by simp; omega
            have d2 : (t == 2) = false := by simp; omega
            have d3 : (t == 3) = false := by simp; omega
            have d4 : (t == 4) = false := by simp; omega
            have d5 : (t == 5) = false := by simp; omega
            have d6 : (t == 6) = false := by simp; omega
            have HPS := hid (fun (W : World) (h : WSet W b R ws n) => (show Calls Try.prog 13 #[.pointer (some ⟨b, 0, none⟩), .int .i64 z, .int .i64 p3] W fun e w' => e = .returned (.bool (wputB R ws z)) ∧ WSet w' b R (wputL R ws z p3) n ∧ Wrote (fun j => j = b) W w' from wPut_any z p3 b R ws n W h))
            have HPR := hid (fun (W : World) (h : IsW W w.heap.size rb R v ws n) => (show Calls Try.prog 14 #[.pointer (some ⟨rb, 0, none⟩), .int .i64 z, .int .i64 p3] W fun e w' => e = .returned (.bool (wputB R ws z)) ∧ ∃ v', IsW w' w.heap.size rb R v' (wputL R ws z p3) n ∧ Wrote (fun j => j = rb ∨ v.ownBlock = some j) W w' ∧ (∀ g, v'.ownBlock = some g → v.ownBlock = some g ∨ W.heap.size ≤ g) from wrPut_any z p3 w.heap.size rb R v ws n W h))
            generalize wputL R ws z p3 = ws' at *
            generalize wputB R ws z = q at *
            have hne1 : Nonempty (Sat (fun W => Below w.heap.size w W)) := ⟨⟨_, HK.out.below⟩⟩
            have hne2 : Nonempty (Sat (fun _ => True)) := ⟨⟨w, trivial⟩⟩
            have y2 := Y2.out
            go_upto_region 15 with fail
            cases q
            · refine wp_region_staged (AwD w b rb R v ws ws' n) (by kernel_rfl) (by kernel_rfl) (fun L hL => AwD.start hL HK.out) ?_
              refine wpS_plain (fun _ => True) (fun _ _ _ _ _ => trivial) (fun _ _ h => AwD.same (k := 0) (by decide) (by decide) h) rfl rfl ?_
              intro KK hKK
              go_big_quiet_op
              go_big_quiet_on
              refine wpS_plain (fun _ => True) (fun _ _ _ _ _ => trivial) (fun _ _ h => AwD.same (k := 1) (by decide) (by decide) h) rfl rfl ?_
              intro KK hKK
              go_big_quiet_op
              go_big_quiet_on
              refine wpS_plain (fun _ => True) (fun _ _ _ _ _ => trivial) (fun _ _ h => AwD.same (k := 2) (by decide) (by decide) h) rfl rfl ?_
              intro KK hKK
              go_big_quiet_op
              go_big_quiet_on
              refine wpS_plain (fun _ => True) (fun _ _ _ _ _ => trivial) (fun _ _ h => AwD.same (k := 3) (by decide) (by decide) h) rfl rfl ?_
              intro KK hKK
              go_big_quiet_op
              go_big_quiet_on
              refine wpS_plain (fun _ => True) (fun _ _ _ _ _ => trivial) (fun _ _ h => AwD.same (k := 4) (by decide) (by decide) h) rfl rfl ?_
              intro KK hKK
              go_big_quiet_op
              go_big_quiet_on
              refine wpS_plain (fun _ => True) (fun _ _ _ _ _ => trivial) (fun _ _ h => AwD.same (k := 5) (by decide) (by decide) h) rfl rfl ?_
              intro KK hKK
              go_big_quiet_op
              go_big_quiet_on
              refine wpS_plain (fun W => Below w.heap.size w W) (fun _ _ _ _ hd => AwD.below hd) (fun _ _ h => AwD.same (k := 6) (by decide) (by decide) h) rfl rfl ?_
              intro KK hKK
              go_big_quiet_op
              go_big_quiet_on
              refine wpS_call 13 #[.pointer (some ⟨b, 0, none⟩), .int .i64 z, .int .i64 p3] (.bool false) rfl (fun _ => by go_simp) ?_ ?_
              · intro L W hL hcl hd
                refine (HPS.out _ (AwD.set hd hL)).mono ?_
                rintro e w'' ⟨rfl, hs, hw⟩
                exact ⟨rfl, AwD.putS hd hs hw⟩
              (try simp only [Act.put, List.getElem_toArray, List.getElem_cons_zero, List.getElem_cons_succ, List.setIfInBounds_toArray, List.set_cons_zero, List.set_cons_succ])
              refine wpS_plain (fun _ => True) (fun _ _ _ _ _ => trivial) (fun _ _ h => AwD.same (k := 8) (by decide) (by decide) h) rfl rfl ?_
              intro KK hKK
              go_big_quiet_op
              go_big_quiet_on
              refine wpS_plain (fun _ => True) (fun _ _ _ _ _ => trivial) (fun _ _ h => AwD.same (k := 9) (by decide) (by decide) h) rfl rfl ?_
              intro KK hKK
              go_big_quiet_op
              go_big_quiet_on
              refine wpS_plain (fun _ => True) (fun _ _ _ _ _ => trivial) (fun _ _ h => AwD.same (k := 10) (by decide) (by decide) h) rfl rfl ?_
              intro KK hKK
              go_big_quiet_op
              go_big_quiet_on
              refine wpS_plain (fun _ => True) (fun _ _ _ _ _ => trivial) (fun _ _ h => AwD.same (k := 11) (by decide) (by decide) h) rfl rfl ?_
              intro KK hKK
              go_big_quiet_op
              go_big_quiet_on
              refine wpS_plain (fun _ => True) (fun _ _ _ _ _ => trivial) (fun _ _ h => AwD.same (k := 12) (by decide) (by decide) h) rfl rfl ?_
              intro KK hKK
              go_big_quiet_op
              go_big_quiet_on
              refine wpS_plain (fun _ => True) (fun _ _ _ _ _ => trivial) (fun _ _ h => AwD.same (k := 13) (by decide) (by decide) h) rfl rfl ?_
              intro KK hKK
              go_big_quiet_op
              go_big_quiet_on
              refine wpS_plain (fun W => Below w.heap.size w W) (fun _ _ _ _ hd => AwD.below hd) (fun _ _ h => AwD.same (k := 14) (by decide) (by decide) h) rfl rfl ?_
              intro KK hKK
              go_big_quiet_op
              go_big_quiet_on
              refine wpS_call 14 #[.pointer (some ⟨rb, 0, none⟩), .int .i64 z, .int .i64 p3] (.bool false) rfl (fun _ => by go_simp) ?_ ?_
              · intro L W hL hcl hd
                refine (HPR.out _ (AwD.ref hd hL)).mono ?_
                rintro e w'' ⟨rfl, v', hi, hw, hg⟩
                exact ⟨rfl, AwD.putR hd hL hi hw hg⟩
              (try simp only [Act.put, List.getElem_toArray, List.getElem_cons_zero, List.getElem_cons_succ, List.setIfInBounds_toArray, List.set_cons_zero, List.set_cons_succ])
              refine wpS_plain (fun _ => True) (fun _ _ _ _ _ => trivial) (fun _ _ h => AwD.same (k := 16) (by decide) (by decide) h) rfl rfl ?_
              intro KK hKK
              go_big_quiet_op
              go_big_quiet_on
              intro L W9 hall hd
              obtain ⟨v', hk9⟩ := AwD.all hd (hall 7 (by decide)) (hall 15 (by decide))
              have HK9 := hid hk9
              clear hd hall hk9
              go_wp2_with fail
              go_meet
              case rel => exact ⟨rfl, _, _, _, by omega, HK9.out⟩
            · refine wp_region_staged (AwD w b rb R v ws ws' n) (by kernel_rfl) (by kernel_rfl) (fun L hL => AwD.start hL HK.out) ?_
              refine wpS_plain (fun _ => True) (fun _ _ _ _ _ => trivial) (fun _ _ h => AwD.same (k := 0) (by decide) (by decide) h) rfl rfl ?_
              intro KK hKK
              go_big_quiet_op
              go_big_quiet_on
              refine wpS_plain (fun _ => True) (fun _ _ _ _ _ => trivial) (fun _ _ h => AwD.same (k := 1) (by decide) (by decide) h) rfl rfl ?_
              intro KK hKK
              go_big_quiet_op
              go_big_quiet_on
              refine wpS_plain (fun _ => True) (fun _ _ _ _ _ => trivial) (fun _ _ h => AwD.same (k := 2) (by decide) (by decide) h) rfl rfl ?_
              intro KK hKK
              go_big_quiet_op
              go_big_quiet_on
              refine wpS_plain (fun _ => True) (fun _ _ _ _ _ => trivial) (fun _ _ h => AwD.same (k := 3) (by decide) (by decide) h) rfl rfl ?_
              intro KK hKK
              go_big_quiet_op
              go_big_quiet_on
              refine wpS_plain (fun _ => True) (fun _ _ _ _ _ => trivial) (fun _ _ h => AwD.same (k := 4) (by decide) (by decide) h) rfl rfl ?_
              intro KK hKK
              go_big_quiet_op
              go_big_quiet_on
              refine wpS_plain (fun _ => True) (fun _ _ _ _ _ => trivial) (fun _ _ h => AwD.same (k := 5) (by decide) (by decide) h) rfl rfl ?_
              intro KK hKK
              go_big_quiet_op
              go_big_quiet_on
              refine wpS_plain (fun W => Below w.heap.size w W) (fun _ _ _ _ hd => AwD.below hd) (fun _ _ h => AwD.same (k := 6) (by decide) (by decide) h) rfl rfl ?_
              intro KK hKK
              go_big_quiet_op
              go_big_quiet_on
              refine wpS_call 13 #[.pointer (some ⟨b, 0, none⟩), .int .i64 z, .int .i64 p3] (.bool true) rfl (fun _ => by go_simp) ?_ ?_
              · intro L W hL hcl hd
                refine (HPS.out _ (AwD.set hd hL)).mono ?_
                rintro e w'' ⟨rfl, hs, hw⟩
                exact ⟨rfl, AwD.putS hd hs hw⟩
              (try simp only [Act.put, List.getElem_toArray, List.getElem_cons_zero, List.getElem_cons_succ, List.setIfInBounds_toArray, List.set_cons_zero, List.set_cons_succ])
              refine wpS_plain (fun _ => True) (fun _ _ _ _ _ => trivial) (fun _ _ h => AwD.same (k := 8) (by decide) (by decide) h) rfl rfl ?_
              intro KK hKK
              go_big_quiet_op
              go_big_quiet_on
              refine wpS_plain (fun _ => True) (fun _ _ _ _ _ => trivial) (fun _ _ h => AwD.same (k := 9) (by decide) (by decide) h) rfl rfl ?_
              intro KK hKK
              go_big_quiet_op
              go_big_quiet_on
              refine wpS_plain (fun _ => True) (fun _ _ _ _ _ => trivial) (fun _ _ h => AwD.same (k := 10) (by decide) (by decide) h) rfl rfl ?_
              intro KK hKK
              go_big_quiet_op
              go_big_quiet_on
              refine wpS_plain (fun _ => True) (fun _ _ _ _ _ => trivial) (fun _ _ h => AwD.same (k := 11) (by decide) (by decide) h) rfl rfl ?_
              intro KK hKK
              go_big_quiet_op
              go_big_quiet_on
              refine wpS_plain (fun _ => True) (fun _ _ _ _ _ => trivial) (fun _ _ h => AwD.same (k := 12) (by decide) (by decide) h) rfl rfl ?_
              intro KK hKK
              go_big_quiet_op
              go_big_quiet_on
              refine wpS_plain (fun _ => True) (fun _ _ _ _ _ => trivial) (fun _ _ h => AwD.same (k := 13) (by decide) (by decide) h) rfl rfl ?_
              intro KK hKK
              go_big_quiet_op
              go_big_quiet_on
              refine wpS_plain (fun W => Below w.heap.size w W) (fun _ _ _ _ hd => AwD.below hd) (fun _ _ h => AwD.same (k := 14) (by decide) (by decide) h) rfl rfl ?_
              intro KK hKK
              go_big_quiet_op
              go_big_quiet_on
              refine wpS_call 14 #[.pointer (some ⟨rb, 0, none⟩), .int .i64 z, .int .i64 p3] (.bool true) rfl (fun _ => by go_simp) ?_ ?_
              · intro L W hL hcl hd
                refine (HPR.out _ (AwD.ref hd hL)).mono ?_
                rintro e w'' ⟨rfl, v', hi, hw, hg⟩
                exact ⟨rfl, AwD.putR hd hL hi hw hg⟩
              (try simp only [Act.put, List.getElem_toArray, List.getElem_cons_zero, List.getElem_cons_succ, List.setIfInBounds_toArray, List.set_cons_zero, List.set_cons_succ])
              refine wpS_plain (fun _ => True) (fun _ _ _ _ _ => trivial) (fun _ _ h => AwD.same (k := 16) (by decide) (by decide) h) rfl rfl ?_
              intro KK hKK
              go_big_quiet_op
              go_big_quiet_on
              intro L W9 hall hd
              obtain ⟨v', hk9⟩ := AwD.all hd (hall 7 (by decide)) (hall 15 (by decide))
              have HK9 := hid hk9
              clear hd hall hk9
              go_wp2_with fail
              go_meet
              case rel => exact ⟨rfl, _, _, _, by omega, HK9.out⟩
      case rest =>
      obtain ⟨rfl, v2, ws2, m2, hm2, hk2⟩ := hcut
      have HK := hid hk2
      clear hk2
      obtain ⟨r0, r1, r2, rf⟩ := HK.out.ref.facts
      obtain ⟨va, vc, rfl, hrow⟩ := HK.out.ref.list.form
      have hlt := HK.out.ref.lt
      have HLN := hid (fun (y : Later wc) => wLen_any b R ws2 m2 y.v (HK.out.set.below y.below))
      have HFS := hid (fun (y : Later wc) => Filter_any b R ws2 m2 y.v (HK.out.set.below y.below))
      have HFR := hid (fun (y : Later wc) => rFilter_any w.heap.size rb R _ ws2 m2 y.v (HK.out.ref.below y.below))
      have HAS := hid (fun (y : Later wc) => Asked_any b R ws2 m2 y.v (HK.out.set.below y.below))
      clear hrow rf r0
      generalize hwl : ws2.length = l2 at *
      have HWL := hid hwl
      clear hwl
      generalize filtL ws2 = f2 at *
      go_upto_region 30 with fail
      refine wp_region_later (by kernel_rfl) (by kernel_rfl) ?_
      repeat (go_big_quiet_step (first | (go_at_call 15; with_reducible exact later_call (HLN.out _)) | (go_at_call 16; with_reducible exact later_same (HFS.out _)) | (go_at_call 17; with_reducible exact later_same (HFR.out _)) | (go_at_call 18; with_reducible exact later_same (HAS.out _))))
      refine wpQuiet_nil ?_
      rintro _ ⟨y, rfl⟩
      have HKX := hid (HK.out.later y.below)
      clear HK HLN HFS HFR HAS r1 r2
      generalize y.v = W6 at HKX ⊢
      clear y
      go_wp2_with fail
      go_roundw
      case rel => exact ⟨j + 1, _, _, _, by omega, hm2, by go_num, HKX.out⟩
      case measure => simp [intOf]; omega
    · obtain rfl : j = len1 := by omega
      obtain ⟨va, vc, rfl, hrow0⟩ := HK.out.ref.list.form
      have HL := hid (List_any b R ws n wr HK.out.set)
      obtain ⟨m, hm⟩ : ∃ m, m = ws.length := ⟨_, rfl⟩
      have HM := hid hm
      have hm32 : m ≤ 32 := by have := HK.out.ref.len; have := HK.out.ref.room; omega
      rw [← hm] at HK
      clear hrow0 hm
      go_upto_region 33 with (go_at_call 19; go_must ((with_reducible refine HL.out.mono ?_); rintro e w9 ⟨kv, rfl, hk, hb⟩; have HA0 := hid (AvAt.new HK.out hk hb); clear hk hb HL))
      obtain ⟨ka, kc, hkv⟩ : ∃ ka kc, kv = .slice ka m kc := by
        obtain ⟨a9, c9, h9, _⟩ := HA0.out.out.form
        rw [← HM.out] at h9
        exact ⟨_, _, h9⟩
      subst hkv
      clear HK
      obtain ⟨r0, r1, r2, rf⟩ := HA0.out.both.ref.facts
      go_wp2_with fail
      clear r0 r1 r2 rf
      go_loopw [14] (fun i W => ∃ k : Nat, k ≤ m ∧ i = .int .i64 k ∧ AvAt w b rb R (.slice va m vc) ws n (.slice ka m kc) W) (fun i _ => m - (intOf i).toNat)
      case atStart => exact ⟨0, by omega, rfl, HA0.out⟩
      case round =>
        clear HA0
        obtain ⟨k, hkm, rfl, hR⟩ := hrel
        have HK := hid hR
        clear hR
        by_cases hlt : k < m
        · obtain ⟨p, hp⟩ := word_at (ws := ws) (k := k) (by rw [← HM.out]; exact hlt)
          obtain ⟨va', vc', e, hrow⟩ := HK.out.both.ref.list.form
          simp only [Value.slice.injEq] at e
          obtain ⟨rfl, -, rfl⟩ := e
          obtain ⟨gl, ol, rfl, hgl, hcs⟩ := hrow.at (by rw [← HM.out]; omega)
          obtain ⟨cp0, cp1⟩ := hcs k p hp
          clear hcs hrow
          obtain ⟨ka', kc', e, hrow⟩ := HK.out.out.form
          simp only [Value.slice.injEq] at e
          obtain ⟨rfl, -, rfl⟩ := e
          obtain ⟨gk, ok, rfl, hgk, hcs⟩ := hrow.at (by rw [← HM.out]; omega)
          obtain ⟨cq0, cq1⟩ := hcs k p hp
          clear hcs hrow hp
          obtain ⟨r0, r1, r2, rf⟩ := HK.out.both.ref.facts
          have g2 := rf 2
          have hrb := HK.out.both.ref.lt
          clear rf r0 r1
          obtain ⟨p1, p2⟩ := p
          have hq1 := neq_word p1 p2 p1 p2
          simp only [sameW_self, Bool.not_true] at hq1
          have hq2 := guard_word
          have n1 : (0 : Int) ≤ (k : Int) := by omega
          have n2 : (k : Int) < (m : Int) := by omega
          go_upto_region 38 with fail
          refine wp_region_later (by kernel_rfl) (by kernel_rfl) ?_
          repeat (go_big_quiet_step (fail))
          refine wpQuiet_nil ?_
          rintro _ ⟨y, rfl⟩
          have HKX := hid (HK.out.later y.below)
          clear HK cp0 cp1 cq0 cq1 r2 g2
          generalize y.v = W6 at HKX ⊢
          clear y
          go_wp2_with fail
          go_roundw
          case rel => exact ⟨k + 1, by omega, by go_num, HKX.out⟩
          case measure => simp [intOf]; omega
        · obtain rfl : k = m := by omega
          go_wp2_with (go_at_call 7; go_must ((with_reducible refine (told14_any _).mono ?_); rintro e w2 ⟨rfl, hb⟩; have HK := hid (HK.out.later hb); clear hb))
          go_ret
          exact ⟨rfl, HK.out.both.below⟩

end Go.Proofs.Ytdkjeggichgimaa
