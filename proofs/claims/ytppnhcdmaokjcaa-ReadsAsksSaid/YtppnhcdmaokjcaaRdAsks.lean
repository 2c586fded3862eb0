/-
  ReadsAsks: its walk.
-/
import Derived.Test.YtppnhcdmaokjcaaRdFirst
import Derived.Test.YtppnhcdmaokjcaaCut
namespace Go.Proofs.Ytppnhcdmaokjcaa
open Go.RowKit
attribute [local go_sem] Later.cell Later.frozen

/-- Both sets, side by side. -/
structure AsAt (w : World) (b rb R : Nat) (v : Value) (ws1 ws2 : List Wd) (W : World) : Prop where
  set : SetAt W b R ws1
  ref : IsR W w.heap.size rb R v ws2
  young : w.heap.size ≤ b
  ne : b ≠ rb
  apart : v.ownBlock ≠ some b
  below : Below w.heap.size w W
section
variable {w W W' : World} {b rb R : Nat} {v v' : Value} {ws ws1 ws2 : List Wd}
theorem AsAt.later (h : AsAt w b rb R v ws1 ws2 W) (hb : Below W.heap.size W W') : AsAt w b rb R v ws1 ws2 W' := ⟨h.set.below hb, h.ref.below hb, h.young, h.ne, h.apart, bthen h.below hb⟩
theorem AsAt.putS (h : AsAt w b rb R v ws1 ws2 W) (hs : SetAt W' b R ws) (hw : Wrote (fun j => j = b) W W') : AsAt w b rb R v ws ws2 W' :=
  ⟨hs, h.ref.kept hw (fun k hk e => by subst e; rcases hk with hk | hk; exact h.ne hk; exact h.apart hk), h.young, h.ne, h.apart, h.below.trans (hw.below h.below.size (fun k hk e => by have := h.young; omega))⟩
theorem AsAt.putR (h : AsAt w b rb R v ws1 ws2 W) (hi : IsR W' w.heap.size rb R v' ws) (hw : Wrote (fun j => j = rb ∨ v.ownBlock = some j) W W') (hg : ∀ g, v'.ownBlock = some g → v.ownBlock = some g ∨ W.heap.size ≤ g) : AsAt w b rb R v' ws1 ws W' := by
  refine ⟨h.set.keep (hw.block b h.set.lt fun e => e.elim h.ne h.apart), hi, h.young, h.ne, fun e => ?_, h.below.trans (hw.below h.below.size (fun k hk e => ?_))⟩
  · rcases hg b e with hh | hh
    · exact h.apart hh
    · have := h.set.lt; omega
  · rcases e with e | e
    · have := h.ref.base; omega
    · have := (h.ref.list.old e).1; omega
theorem AsAt.clearR (h : AsAt w b rb R v ws1 ws2 W) : AsAt w b rb R (.slice none 0 0) ws1 [] (W.setCell ⟨rb, 1, none⟩ (.slice none 0 0)) := by
  have hw : Wrote (fun j => j = rb) W (W.setCell ⟨rb, 1, none⟩ (.slice none 0 0)) := (Wrote.refl (fun j => j = rb) W).setCell (fun _ => rfl) _
  exact ⟨h.set.keep (hw.block b h.set.lt h.ne), h.ref.clear, h.young, h.ne, by simp [Value.ownBlock], h.below.trans (hw.below h.below.size (fun k hk e => by have := h.ref.base; omega))⟩
theorem AsAt.new {w1 : World} (hs : SetAt w1 b R []) (hy : w.heap.size ≤ b) (hb : Below w.heap.size w w1) : AsAt w b w1.heap.size R (.slice none 0 0) [] [] (w1.alloc (.cells #[.int .i64 R, .slice none 0 0] 30)) :=
  ⟨hs.below (bnew (bid w1) _), ⟨heap_alloc_new _ _, WL.nil _ _, by simp [Value.ownBlock], hb.size, hs.room, Nat.zero_le _⟩, hy, by have := hs.lt; omega, by simp [Value.ownBlock], bnew hb _⟩
/-- The stages of a round: the program's Put. -/
def AsD (w : World) (b rb R : Nat) (v : Value) (ws ws' : List Wd) (L : Nat → Bool) (W : World) : Prop := AsAt w b rb R v (bif L 15 then ws' else ws) ws W
variable {ws' : List Wd} {L : Nat → Bool}
theorem AsD.start (hL : ∀ j, L j = false) (h : AsAt w b rb R v ws ws W) : AsD w b rb R v ws ws' L W.drew := by
  unfold AsD; rw [hL 15]; exact h.later ⟨rfl, rfl, rfl, Nat.le_refl _, fun _ _ => rfl⟩
theorem AsD.no (h : AsD w b rb R v ws ws' L W) (hL : L 15 = false) : AsAt w b rb R v ws ws W := by unfold AsD at h; rw [hL] at h; exact h
theorem AsD.yes (h : AsD w b rb R v ws ws' L W) (hL : L 15 = true) : AsAt w b rb R v ws' ws W := by unfold AsD at h; rw [hL] at h; exact h
theorem AsD.of (h : AsAt w b rb R v ws' ws W) (hL : L 15 = true) : AsD w b rb R v ws ws' L W := by unfold AsD; rw [hL]; exact h
theorem AsD.same {k : Nat} (hk : 15 ≠ k) (h : AsD w b rb R v ws ws' L W) : AsD w b rb R v ws ws' (bump L k) W := by unfold AsD at h ⊢; rw [bump_ne L hk]; exact h
theorem AsD.later (h : AsD w b rb R v ws ws' L W) (hb : Below W.heap.size W W') : AsD w b rb R v ws ws' L W' := by unfold AsD at h ⊢; exact AsAt.later h hb
theorem AsD.below (h : AsD w b rb R v ws ws' L W) : Below w.heap.size w W := by unfold AsD at h; exact AsAt.below h
end
/-- The same with the keys beside it. -/
structure AkAt (w : World) (b rb R : Nat) (v : Value) (ws : List Wd) (kv : Value) (W : World) : Prop where
  both : AsAt w b rb R v ws ws W
  keys : NL W w.heap.size kv (keysL ws)
theorem AkAt.later {w W W' : World} {b rb R : Nat} {v kv : Value} {ws : List Wd} (h : AkAt w b rb R v ws kv W) (hb : Below W.heap.size W W') : AkAt w b rb R v ws kv W' := ⟨h.both.later hb, h.keys.below hb⟩
theorem AkAt.new {w W W' : World} {b rb R : Nat} {v kv : Value} {ws : List Wd} (h : AsAt w b rb R v ws ws W) (hk : NL W' W.heap.size kv (keysL ws)) (hb : Below W.heap.size W W') : AkAt w b rb R v ws kv W' := ⟨h.later hb, hk.mono h.below.size⟩
theorem keysL_len (ws : List Wd) : (keysL ws).length = ws.length := by simp [keysL]
theorem keysL_at {ws : List Wd} {i : Nat} {p : Wd} (h : ws[i]? = some p) : (keysL ws).getD i 0 = p.1 := by simp [keysL, h]

set_option maxRecDepth 100000 in
set_option maxHeartbeats 4000000 in
theorem asks_any (x : Int) (a1 : Option Addr) (len1 cap1 : Nat) (ls : List Wd) (c : Int) (w : World) (hr : WRow w a1 len1 ls) :
    Calls Try.prog 3 #[.int .i64 x, .slice a1 len1 cap1, .int .i64 c] w fun e w' => e = .returned (.bool true) ∧ Below w.heap.size w w' := by
  have HR0 := hid hr
  have HLEN := hid hr.cnt
  clear hr
  by_cases h1 : (60 : Int) < (len1 : Int)
  · go_enter Try.func3, Try.ntmps3
    go_wp2_with (go_at_call 6; go_must ((with_reducible refine (told13_any _).mono ?_); rintro e w1 ⟨rfl, hb1⟩))
    go_ret
    exact ⟨rfl, hb1⟩
  obtain ⟨q0, hq0, hqc⟩ := rs_pick c 70 (by decide) (by decide)
  have HQC := hid (show wrap64 ((IntKind.u64.wrap c).tmod 70) = (q0 : Int) from hqc)
  clear hqc
  go_enter Try.func3, Try.ntmps3
  go_upto_region 3 with fail
  go_upto_if 20 with fail
  go_cut [0] (fun v W => (∃ z : Int, v = .int .i64 z) ∧ W = w)
  case first =>
    go_wp2_with fail
    all_goals go_meet
    all_goals exact ⟨⟨_, rfl⟩, rfl⟩
  case rest =>
  obtain ⟨⟨z, rfl⟩, hwc⟩ := hcut
  have hwc := hwc.symm
  subst hwc
  have HNW := hid (New_any z w)
  have HCP := hid (fun W => Cap_any z W)
  generalize capF z = R at *
  go_upto_region 6 with (first | (go_at_call 7; go_must ((with_reducible refine HNW.out.mono ?_); rintro e w1 ⟨b, rfl, hwb, hs, hb⟩; have HS := hid hs; have HB := hid (And.intro hwb hb); clear hs hb hwb)) | (go_at_call 8; go_must ((with_reducible refine (HCP.out _).mono ?_); rintro e w2 ⟨rfl, rfl⟩)))
  refine wp_renamed _ (AsAt.new HS.out HB.out.1 HB.out.2) ?_
  generalize w1.heap.size = rb
  clear HS HB HNW HCP
  intro W1 hk
  have HK0 := hid hk
  clear hk
  go_wp2_with fail
  go_loopw [9] (fun i W => ∃ (j : Nat) (v : Value) (ws : List Wd), j ≤ len1 ∧ i = .int .i64 j ∧ AsAt w b rb R v ws ws W) (fun i _ => len1 - (intOf i).toNat)
  case atStart => exact ⟨0, _, _, by omega, rfl, HK0.out⟩
  case round =>
    clear HK0
    obtain ⟨j, v, ws, hj, rfl, hR⟩ := hrel
    have HK := hid hR
    clear hR
    by_cases hlt : j < len1
    · obtain ⟨p, hp⟩ := word_at (ws := ls) (k := j) (by rw [HLEN.out]; exact hlt)
      obtain ⟨g, off, rfl, hg, hcs⟩ := (HR0.out.below HK.out.below).at (by omega)
      obtain ⟨cp0, cp1⟩ := hcs j p hp
      clear hcs
      have hcs := fun (y : Sat (fun W => Below w.heap.size w W)) => (show WAt y.v g (off + j * 2) p from by
        obtain ⟨g', off', e, _, h⟩ := (HR0.out.below y.p).at (by omega)
        simp only [Option.some.injEq, Addr.mk.injEq, and_true] at e
        obtain ⟨rfl, rfl⟩ := e
        exact h j p hp)
      have Y1 := hid (fun y => (hcs y).c1)
      clear hcs hp
      obtain ⟨p1, p2⟩ := p
      have n1 : (0 : Int) ≤ (j : Int) := by omega
      have n2 : (j : Int) < (len1 : Int) := by omega
      go_upto_region 12 with fail
      go_upto_if 47 with fail
      go_cut [10] (fun v W => (∃ z : Int, v = .int .i64 z) ∧ W = wr)
      case first =>
        go_wp2_with fail
        all_goals go_meet
        all_goals exact ⟨⟨_, rfl⟩, rfl⟩
      case rest =>
      obtain ⟨⟨z, rfl⟩, hwc⟩ := hcut
      have hwc := hwc.symm
      subst hwc
      clear cp0 cp1
      go_upto_region 14 with fail
      have hw0 : ∀ W, SetAt W b R ws → True := fun _ _ => trivial
      clear hw0
      have HRS := hid (fun (W : World) (h : SetAt W b R ws) => Room_any z b R ws W h)
      have HRR := hid (fun (W : World) (h : IsR W w.heap.size rb R v ws) => rRoom_any z w.heap.size rb R v ws W h)
      have HPS := hid (fun (W : World) (h : SetAt W b R ws) => (show Calls Try.prog 11 #[.pointer (some ⟨b, 0, none⟩), .int .i64 z, .int .i64 p2] W fun e w' => e = .returned (.bool (roomL R ws z)) ∧ SetAt w' b R (putL R ws z p2) ∧ Wrote (fun j => j = b) W w' from Put_any z p2 b R ws W h))
      have HPR := hid (fun (W : World) (h : IsR W w.heap.size rb R v ws) => (show Calls Try.prog 12 #[.pointer (some ⟨rb, 0, none⟩), .int .i64 z, .int .i64 p2] W fun e w' => e = .returned (.bool (roomL R ws z)) ∧ ∃ v', IsR w' w.heap.size rb R v' (putL R ws z p2) ∧ Wrote (fun j => j = rb ∨ v.ownBlock = some j) W w' ∧ (∀ g, v'.ownBlock = some g → v.ownBlock = some g ∨ W.heap.size ≤ g) from rPut_any z p2 w.heap.size rb R v ws W h))
      have HLN := hid (fun (W : World) (h : SetAt W b R (putL R ws z p2)) => Len_any b R _ W h)
      generalize putL R ws z p2 = ws' at *
      have hne1 : Nonempty (Sat (fun W => Below w.heap.size w W)) := ⟨⟨_, HK.out.below⟩⟩
      have hne2 : Nonempty (Sat (fun _ => True)) := ⟨⟨w, trivial⟩⟩
      have y1 := Y1.out
      generalize roomL R ws z = q at *
      cases q
      · refine wp_region_cut 23 (AsD w b rb R v ws ws') (by kernel_rfl) (by kernel_rfl) (fun L hL => AsD.start hL HK.out) ?_
        simp only [List.take_succ_cons, List.take_zero]
        refine wpS_plain (fun _ => True) (fun _ _ _ _ _ => trivial) (fun _ _ h => AsD.same (k := 0) (by decide) h) rfl rfl ?_
        intro KK hKK
        go_big_quiet_op
        go_big_quiet_on
        refine wpS_plain (fun _ => True) (fun _ _ _ _ _ => trivial) (fun _ _ h => AsD.same (k := 1) (by decide) h) rfl rfl ?_
        intro KK hKK
        go_big_quiet_op
        go_big_quiet_on
        refine wpS_call 9 #[.pointer (some ⟨b, 0, none⟩), .int .i64 z] (.bool false) rfl (fun _ => by go_simp) ?_ ?_
        · intro L W hL hcl hd
          have h5 := hcl.no hL (j := 5) (by kernel_rfl)
          have h7 := hcl.no h5 (j := 7) (by kernel_rfl)
          have h15 := hcl.no h7 (j := 15) (by kernel_rfl)
          have hd1 := AsD.no hd h15
          refine (HRS.out _ hd1.set).mono ?_
          rintro e w'' ⟨rfl, hb⟩
          exact ⟨rfl, AsD.same (by decide) (hd.later hb)⟩
        (try simp only [Act.put, List.getElem_toArray, List.getElem_cons_zero, List.getElem_cons_succ, List.setIfInBounds_toArray, List.set_cons_zero, List.set_cons_succ])
        refine wpS_plain (fun _ => True) (fun _ _ _ _ _ => trivial) (fun _ _ h => AsD.same (k := 3) (by decide) h) rfl rfl ?_
        intro KK hKK
        go_big_quiet_op
        go_big_quiet_on
        refine wpS_plain (fun _ => True) (fun _ _ _ _ _ => trivial) (fun _ _ h => AsD.same (k := 4) (by decide) h) rfl rfl ?_
        intro KK hKK
        go_big_quiet_op
        go_big_quiet_on
        refine wpS_call 10 #[.pointer (some ⟨rb, 0, none⟩), .int .i64 z] (.bool false) rfl (fun _ => by go_simp) ?_ ?_
        · intro L W hL hcl hd
          have h7 := hcl.no hL (j := 7) (by kernel_rfl)
          have h15 := hcl.no h7 (j := 15) (by kernel_rfl)
          have hd1 := AsD.no hd h15
          refine (HRR.out _ hd1.ref).mono ?_
          rintro e w'' ⟨rfl, hb⟩
          exact ⟨rfl, AsD.same (by decide) (hd.later hb)⟩
        (try simp only [Act.put, List.getElem_toArray, List.getElem_cons_zero, List.getElem_cons_succ, List.setIfInBounds_toArray, List.set_cons_zero, List.set_cons_succ])
        refine wpS_plain (fun _ => True) (fun _ _ _ _ _ => trivial) (fun _ _ h => AsD.same (k := 6) (by decide) h) rfl rfl ?_
        intro KK hKK
        go_big_quiet_op
        go_big_quiet_on
        refine wpS_plain (fun _ => True) (fun _ _ _ _ _ => trivial) (fun _ _ h => AsD.same (k := 7) (by decide) h) rfl rfl ?_
        intro KK hKK
        go_big_quiet_op
        go_big_quiet_on
        refine wpS_plain (fun _ => True) (fun _ _ _ _ _ => trivial) (fun _ _ h => AsD.same (k := 8) (by decide) h) rfl rfl ?_
        intro KK hKK
        go_big_quiet_op
        go_big_quiet_on
        refine wpS_plain (fun _ => True) (fun _ _ _ _ _ => trivial) (fun _ _ h => AsD.same (k := 9) (by decide) h) rfl rfl ?_
        intro KK hKK
        go_big_quiet_op
        go_big_quiet_on
        refine wpS_plain (fun _ => True) (fun _ _ _ _ _ => trivial) (fun _ _ h => AsD.same (k := 10) (by decide) h) rfl rfl ?_
        intro KK hKK
        go_big_quiet_op
        go_big_quiet_on
        refine wpS_plain (fun _ => True) (fun _ _ _ _ _ => trivial) (fun _ _ h => AsD.same (k := 11) (by decide) h) rfl rfl ?_
        intro KK hKK
        go_big_quiet_op
        go_big_quiet_on
        refine wpS_plain (fun _ => True) (fun _ _ _ _ _ => trivial) (fun _ _ h => AsD.same (k := 12) (by decide) h) rfl rfl ?_
        intro KK hKK
        go_big_quiet_op
        go_big_quiet_on
        refine wpS_plain (fun _ => True) (fun _ _ _ _ _ => trivial) (fun _ _ h => AsD.same (k := 13) (by decide) h) rfl rfl ?_
        intro KK hKK
        go_big_quiet_op
        go_big_quiet_on
        refine wpS_plain (fun W => Below w.heap.size w W) (fun _ _ _ _ hd => AsD.below hd) (fun _ _ h => AsD.same (k := 14) (by decide) h) rfl rfl ?_
        intro KK hKK
        go_big_quiet_op
        go_big_quiet_on
        refine wpS_call 11 #[.pointer (some ⟨b, 0, none⟩), .int .i64 z, .int .i64 p2] (.bool false) rfl (fun _ => by go_simp) ?_ ?_
        · intro L W hL hcl hd
          have hd1 := AsD.no hd hL
          refine (HPS.out _ hd1.set).mono ?_
          rintro e w'' ⟨rfl, hs, hw⟩
          exact ⟨rfl, AsD.of (hd1.putS hs hw) (bump_at _ _)⟩
        (try simp only [Act.put, List.getElem_toArray, List.getElem_cons_zero, List.getElem_cons_succ, List.setIfInBounds_toArray, List.set_cons_zero, List.set_cons_succ])
        refine wpS_plain (fun _ => True) (fun _ _ _ _ _ => trivial) (fun _ _ h => AsD.same (k := 16) (by decide) h) rfl rfl ?_
        intro KK hKK
        go_big_quiet_op
        go_big_quiet_on
        refine wpS_plain (fun _ => True) (fun _ _ _ _ _ => trivial) (fun _ _ h => AsD.same (k := 17) (by decide) h) rfl rfl ?_
        intro KK hKK
        go_big_quiet_op
        go_big_quiet_on
        refine wpS_plain (fun _ => True) (fun _ _ _ _ _ => trivial) (fun _ _ h => AsD.same (k := 18) (by decide) h) rfl rfl ?_
        intro KK hKK
        go_big_quiet_op
        go_big_quiet_on
        refine wpS_plain (fun _ => True) (fun _ _ _ _ _ => trivial) (fun _ _ h => AsD.same (k := 19) (by decide) h) rfl rfl ?_
        intro KK hKK
        go_big_quiet_op
        go_big_quiet_on
        refine wpS_plain (fun _ => True) (fun _ _ _ _ _ => trivial) (fun _ _ h => AsD.same (k := 20) (by decide) h) rfl rfl ?_
        intro KK hKK
        go_big_quiet_op
        go_big_quiet_on
        refine wpS_plain (fun _ => True) (fun _ _ _ _ _ => trivial) (fun _ _ h => AsD.same (k := 21) (by decide) h) rfl rfl ?_
        intro KK hKK
        go_big_quiet_op
        go_big_quiet_on
        refine wpS_plain (fun W => Below w.heap.size w W) (fun _ _ _ _ hd => AsD.below hd) (fun _ _ h => AsD.same (k := 22) (by decide) h) rfl rfl ?_
        intro KK hKK
        go_big_quiet_op
        go_big_quiet_on
        intro L W' hall hnone hd
        have HKH := hid (AsD.yes hd (hall 15 (by decide)))
        clear hd hall hnone y1 hne1
        refine wpOp_call (o := _) rfl rfl 12 #[.pointer (some ⟨rb, 0, none⟩), .int .i64 z, .int .i64 p2] (by go_simp) ?_
        refine (HPR.out _ HKH.out.ref).mono ?_
        rintro e w'' ⟨rfl, v', hi, hw, hg⟩
        have hk2 := HKH.out.putR hi hw hg
        clear hi hw hg HKH
        obtain ⟨ra, n, rc, rfl, hlen⟩ : ∃ ra n rc, v' = .slice ra n rc ∧ n = ws'.length := by
          obtain ⟨a9, c9, h9, _⟩ := hk2.ref.list.form
          exact ⟨_, _, _, h9, rfl⟩
        have HKC := hid hk2
        refine ⟨_, rfl, fun _ W => AsAt w b rb R (.slice ra n rc) ws' ws' W, fun L _ _ => HKC.out, ?_⟩
        have hne3 : Nonempty (Sat (fun W => AsAt w b rb R (.slice ra n rc) ws' ws' W)) := ⟨⟨_, HKC.out⟩⟩
        clear hk2 HKC
        simp only [List.drop_succ_cons, List.drop_zero, Act.put, List.getElem_toArray, List.getElem_cons_zero, List.getElem_cons_succ, List.setIfInBounds_toArray, List.set_cons_zero, List.set_cons_succ]
        have hcy := fun (y : Sat (fun W => AsAt w b rb R (.slice ra n rc) ws' ws' W)) => (show y.v.cell? ⟨rb, 1, none⟩ = some (.slice ra n rc) from y.p.ref.facts.2.1)
        refine wpS_plain (fun _ => True) (fun _ _ _ _ _ => trivial) (fun _ _ h => h) rfl rfl ?_
        intro KK hKK
        go_big_quiet_op
        go_big_quiet_on
        refine wpS_plain (fun _ => True) (fun _ _ _ _ _ => trivial) (fun _ _ h => h) rfl rfl ?_
        intro KK hKK
        go_big_quiet_op
        go_big_quiet_on
        refine wpS_plain (fun _ => True) (fun _ _ _ _ _ => trivial) (fun _ _ h => h) rfl rfl ?_
        intro KK hKK
        go_big_quiet_op
        go_big_quiet_on
        refine wpS_plain (fun _ => True) (fun _ _ _ _ _ => trivial) (fun _ _ h => h) rfl rfl ?_
        intro KK hKK
        go_big_quiet_op
        go_big_quiet_on
        refine wpS_call 13 #[.pointer (some ⟨b, 0, none⟩)] (.int .i64 n) rfl (fun _ => by go_simp) ?_ ?_
        · intro L W hL hcl hd
          refine (HLN.out _ hd.set).mono ?_
          rintro e w'' ⟨rfl, hb⟩
          exact ⟨by rw [hlen], AsAt.later hd hb⟩
        (try simp only [Act.put, List.getElem_toArray, List.getElem_cons_zero, List.getElem_cons_succ, List.setIfInBounds_toArray, List.set_cons_zero, List.set_cons_succ])
        refine wpS_plain (fun _ => True) (fun _ _ _ _ _ => trivial) (fun _ _ h => h) rfl rfl ?_
        intro KK hKK
        go_big_quiet_op
        go_big_quiet_on
        refine wpS_value (.pointer (some ⟨rb, 0, none⟩)) rfl (fun _ => by go_simp) (fun _ _ h => h) ?_
        (try simp only [Act.put, List.getElem_toArray, List.getElem_cons_zero, List.getElem_cons_succ, List.setIfInBounds_toArray, List.set_cons_zero, List.set_cons_succ])
        refine wpS_plain (fun _ => True) (fun _ _ _ _ _ => trivial) (fun _ _ h => h) rfl rfl ?_
        intro KK hKK
        go_big_quiet_op
        go_big_quiet_on
        refine wpS_plain (fun W => AsAt w b rb R (.slice ra n rc) ws' ws' W) (fun _ _ _ _ hd => hd) (fun _ _ h => h) rfl rfl ?_
        intro KK hKK
        go_big_quiet_op
        go_big_quiet_on
        refine wpS_value (.int .i64 n) rfl (fun _ => by go_simp) (fun _ _ h => h) ?_
        (try simp only [Act.put, List.getElem_toArray, List.getElem_cons_zero, List.getElem_cons_succ, List.setIfInBounds_toArray, List.set_cons_zero, List.set_cons_succ])
        refine wpS_plain (fun _ => True) (fun _ _ _ _ _ => trivial) (fun _ _ h => h) rfl rfl ?_
        intro KK hKK
        go_big_quiet_op
        go_big_quiet_on
        refine wpS_plain (fun _ => True) (fun _ _ _ _ _ => trivial) (fun _ _ h => h) rfl rfl ?_
        intro KK hKK
        go_big_quiet_op
        go_big_quiet_on
        intro L W9 hall hd
        have HK9 := hid (AsAt.later hd (bid _))
        clear hd hall hcy hne2 hne3
        clear HRS HRR HPS HPR HLN
        go_upto_if 93 with fail
        rw [HQC.out]
        by_cases hjq : (j : Int) = (q0 : Int)
        · go_upto_region 18 with (go_at_call 14; go_must ((with_reducible refine (Clear_any b R _ _ HK9.out.set).mono ?_); rintro e w8 ⟨rfl, hs, hw⟩; have HK8 := hid (HK9.out.putS hs hw); clear hs hw))
          obtain ⟨r0, r1, rf⟩ := HK8.out.ref.facts
          go_wp2_with fail
          go_roundw
          case rel => exact ⟨j + 1, _, _, by omega, by go_num, HK8.out.clearR⟩
          case measure => simp [intOf]; omega
        · go_wp2_with fail
          go_roundw
          case rel => exact ⟨j + 1, _, _, by omega, by go_num, HK9.out⟩
          case measure => simp [intOf]; omega
      · refine wp_region_cut 23 (AsD w b rb R v ws ws') (by kernel_rfl) (by kernel_rfl) (fun L hL => AsD.start hL HK.out) ?_
        simp only [List.take_succ_cons, List.take_zero]
        refine wpS_plain (fun _ => True) (fun _ _ _ _ _ => trivial) (fun _ _ h => AsD.same (k := 0) (by decide) h) rfl rfl ?_
        intro KK hKK
        go_big_quiet_op
        go_big_quiet_on
        refine wpS_plain (fun _ => True) (fun _ _ _ _ _ => trivial) (fun _ _ h => AsD.same (k := 1) (by decide) h) rfl rfl ?_
        intro KK hKK
        go_big_quiet_op
        go_big_quiet_on
        refine wpS_call 9 #[.pointer (some ⟨b, 0, none⟩), .int .i64 z] (.bool true) rfl (fun _ => by go_simp) ?_ ?_
        · intro L W hL hcl hd
          have h5 := hcl.no hL (j := 5) (by kernel_rfl)
          have h7 := hcl.no h5 (j := 7) (by kernel_rfl)
          have h15 := hcl.no h7 (j := 15) (by kernel_rfl)
          have hd1 := AsD.no hd h15
          refine (HRS.out _ hd1.set).mono ?_
          rintro e w'' ⟨rfl, hb⟩
          exact ⟨rfl, AsD.same (by decide) (hd.later hb)⟩
        (try simp only [Act.put, List.getElem_toArray, List.getElem_cons_zero, List.getElem_cons_succ, List.setIfInBounds_toArray, List.set_cons_zero, List.set_cons_succ])
        refine wpS_plain (fun _ => True) (fun _ _ _ _ _ => trivial) (fun _ _ h => AsD.same (k := 3) (by decide) h) rfl rfl ?_
        intro KK hKK
        go_big_quiet_op
        go_big_quiet_on
        refine wpS_plain (fun _ => True) (fun _ _ _ _ _ => trivial) (fun _ _ h => AsD.same (k := 4) (by decide) h) rfl rfl ?_
        intro KK hKK
        go_big_quiet_op
        go_big_quiet_on
        refine wpS_call 10 #[.pointer (some ⟨rb, 0, none⟩), .int .i64 z] (.bool true) rfl (fun _ => by go_simp) ?_ ?_
        · intro L W hL hcl hd
          have h7 := hcl.no hL (j := 7) (by kernel_rfl)
          have h15 := hcl.no h7 (j := 15) (by kernel_rfl)
          have hd1 := AsD.no hd h15
          refine (HRR.out _ hd1.ref).mono ?_
          rintro e w'' ⟨rfl, hb⟩
          exact ⟨rfl, AsD.same (by decide) (hd.later hb)⟩
        (try simp only [Act.put, List.getElem_toArray, List.getElem_cons_zero, List.getElem_cons_succ, List.setIfInBounds_toArray, List.set_cons_zero, List.set_cons_succ])
        refine wpS_plain (fun _ => True) (fun _ _ _ _ _ => trivial) (fun _ _ h => AsD.same (k := 6) (by decide) h) rfl rfl ?_
        intro KK hKK
        go_big_quiet_op
        go_big_quiet_on
        refine wpS_plain (fun _ => True) (fun _ _ _ _ _ => trivial) (fun _ _ h => AsD.same (k := 7) (by decide) h) rfl rfl ?_
        intro KK hKK
        go_big_quiet_op
        go_big_quiet_on
        refine wpS_plain (fun _ => True) (fun _ _ _ _ _ => trivial) (fun _ _ h => AsD.same (k := 8) (by decide) h) rfl rfl ?_
        intro KK hKK
        go_big_quiet_op
        go_big_quiet_on
        refine wpS_plain (fun _ => True) (fun _ _ _ _ _ => trivial) (fun _ _ h => AsD.same (k := 9) (by decide) h) rfl rfl ?_
        intro KK hKK
        go_big_quiet_op
        go_big_quiet_on
        refine wpS_plain (fun _ => True) (fun _ _ _ _ _ => trivial) (fun _ _ h => AsD.same (k := 10) (by decide) h) rfl rfl ?_
        intro KK hKK
        go_big_quiet_op
        go_big_quiet_on
        refine wpS_plain (fun _ => True) (fun _ _ _ _ _ => trivial) (fun _ _ h => AsD.same (k := 11) (by decide) h) rfl rfl ?_
        intro KK hKK
        go_big_quiet_op
        go_big_quiet_on
        refine wpS_plain (fun _ => True) (fun _ _ _ _ _ => trivial) (fun _ _ h => AsD.same (k := 12) (by decide) h) rfl rfl ?_
        intro KK hKK
        go_big_quiet_op
        go_big_quiet_on
        refine wpS_plain (fun _ => True) (fun _ _ _ _ _ => trivial) (fun _ _ h => AsD.same (k := 13) (by decide) h) rfl rfl ?_
        intro KK hKK
        go_big_quiet_op
        go_big_quiet_on
        refine wpS_plain (fun W => Below w.heap.size w W) (fun _ _ _ _ hd => AsD.below hd) (fun _ _ h => AsD.same (k := 14) (by decide) h) rfl rfl ?_
        intro KK hKK
        go_big_quiet_op
        go_big_quiet_on
        refine wpS_call 11 #[.pointer (some ⟨b, 0, none⟩), .int .i64 z, .int .i64 p2] (.bool true) rfl (fun _ => by go_simp) ?_ ?_
        · intro L W hL hcl hd
          have hd1 := AsD.no hd hL
          refine (HPS.out _ hd1.set).mono ?_
          rintro e w'' ⟨rfl, hs, hw⟩
          exact ⟨rfl, AsD.of (hd1.putS hs hw) (bump_at _ _)⟩
        (try simp only [Act.put, List.getElem_toArray, List.getElem_cons_zero, List.getElem_cons_succ, List.setIfInBounds_toArray, List.set_cons_zero, List.set_cons_succ])
        refine wpS_plain (fun _ => True) (fun _ _ _ _ _ => trivial) (fun _ _ h => AsD.same (k := 16) (by decide) h) rfl rfl ?_
        intro KK hKK
        go_big_quiet_op
        go_big_quiet_on
        refine wpS_plain (fun _ => True) (fun _ _ _ _ _ => trivial) (fun _ _ h => AsD.same (k := 17) (by decide) h) rfl rfl ?_
        intro KK hKK
        go_big_quiet_op
        go_big_quiet_on
        refine wpS_plain (fun _ => True) (fun _ _ _ _ _ => trivial) (fun _ _ h => AsD.same (k := 18) (by decide) h) rfl rfl ?_
        intro KK hKK
        go_big_quiet_op
        go_big_quiet_on
        refine wpS_plain (fun _ => True) (fun _ _ _ _ _ => trivial) (fun _ _ h => AsD.same (k := 19) (by decide) h) rfl rfl ?_
        intro KK hKK
        go_big_quiet_op
        go_big_quiet_on
        refine wpS_plain (fun _ => True) (fun _ _ _ _ _ => trivial) (fun _ _ h => AsD.same (k := 20) (by decide) h) rfl rfl ?_
        intro KK hKK
        go_big_quiet_op
        go_big_quiet_on
        refine wpS_plain (fun _ => True) (fun _ _ _ _ _ => trivial) (fun _ _ h => AsD.same (k := 21) (by decide) h) rfl rfl ?_
        intro KK hKK
        go_big_quiet_op
        go_big_quiet_on
        refine wpS_plain (fun W => Below w.heap.size w W) (fun _ _ _ _ hd => AsD.below hd) (fun _ _ h => AsD.same (k := 22) (by decide) h) rfl rfl ?_
        intro KK hKK
        go_big_quiet_op
        go_big_quiet_on
        intro L W' hall hnone hd
        have HKH := hid (AsD.yes hd (hall 15 (by decide)))
        clear hd hall hnone y1 hne1
        refine wpOp_call (o := _) rfl rfl 12 #[.pointer (some ⟨rb, 0, none⟩), .int .i64 z, .int .i64 p2] (by go_simp) ?_
        refine (HPR.out _ HKH.out.ref).mono ?_
        rintro e w'' ⟨rfl, v', hi, hw, hg⟩
        have hk2 := HKH.out.putR hi hw hg
        clear hi hw hg HKH
        obtain ⟨ra, n, rc, rfl, hlen⟩ : ∃ ra n rc, v' = .slice ra n rc ∧ n = ws'.length := by
          obtain ⟨a9, c9, h9, _⟩ := hk2.ref.list.form
          exact ⟨_, _, _, h9, rfl⟩
        have HKC := hid hk2
        refine ⟨_, rfl, fun _ W => AsAt w b rb R (.slice ra n rc) ws' ws' W, fun L _ _ => HKC.out, ?_⟩
        have hne3 : Nonempty (Sat (fun W => AsAt w b rb R (.slice ra n rc) ws' ws' W)) := ⟨⟨_, HKC.out⟩⟩
        clear hk2 HKC
        simp only [List.drop_succ_cons, List.drop_zero, Act.put, List.getElem_toArray, List.getElem_cons_zero, List.getElem_cons_succ, List.setIfInBounds_toArray, List.set_cons_zero, List.set_cons_succ]
        have hcy := fun (y : Sat (fun W => AsAt w b rb R (.slice ra n rc) ws' ws' W)) => (show y.v.cell? ⟨rb, 1, none⟩ = some (.slice ra n rc) from y.p.ref.facts.2.1)
        refine wpS_plain (fun _ => True) (fun _ _ _ _ _ => trivial) (fun _ _ h => h) rfl rfl ?_
        intro KK hKK
        go_big_quiet_op
        go_big_quiet_on
        refine wpS_plain (fun _ => True) (fun _ _ _ _ _ => trivial) (fun _ _ h => h) rfl rfl ?_
        intro KK hKK
        go_big_quiet_op
        go_big_quiet_on
        refine wpS_plain (fun _ => True) (fun _ _ _ _ _ => trivial) (fun _ _ h => h) rfl rfl ?_
        intro KK hKK
        go_big_quiet_op
        go_big_quiet_on
        refine wpS_plain (fun _ => True) (fun _ _ _ _ _ => trivial) (fun _ _ h => h) rfl rfl ?_
        intro KK hKK
        go_big_quiet_op
        go_big_quiet_on
        refine wpS_call 13 #[.pointer (some ⟨b, 0, none⟩)] (.int .i64 n) rfl (fun _ => by go_simp) ?_ ?_
        · intro L W hL hcl hd
          refine (HLN.out _ hd.set).mono ?_
          rintro e w'' ⟨rfl, hb⟩
          exact ⟨by rw [hlen], AsAt.later hd hb⟩
        (try simp only [Act.put, List.getElem_toArray, List.getElem_cons_zero, List.getElem_cons_succ, List.setIfInBounds_toArray, List.set_cons_zero, List.set_cons_succ])
        refine wpS_plain (fun _ => True) (fun _ _ _ _ _ => trivial) (fun _ _ h => h) rfl rfl ?_
        intro KK hKK
        go_big_quiet_op
        go_big_quiet_on
        refine wpS_value (.pointer (some ⟨rb, 0, none⟩)) rfl (fun _ => by go_simp) (fun _ _ h => h) ?_
        (try simp only [Act.put, List.getElem_toArray, List.getElem_cons_zero, List.getElem_cons_succ, List.setIfInBounds_toArray, List.set_cons_zero, List.set_cons_succ])
        refine wpS_plain (fun _ => True) (fun _ _ _ _ _ => trivial) (fun _ _ h => h) rfl rfl ?_
        intro KK hKK
        go_big_quiet_op
        go_big_quiet_on
        refine wpS_plain (fun W => AsAt w b rb R (.slice ra n rc) ws' ws' W) (fun _ _ _ _ hd => hd) (fun _ _ h => h) rfl rfl ?_
        intro KK hKK
        go_big_quiet_op
        go_big_quiet_on
        refine wpS_value (.int .i64 n) rfl (fun _ => by go_simp) (fun _ _ h => h) ?_
        (try simp only [Act.put, List.getElem_toArray, List.getElem_cons_zero, List.getElem_cons_succ, List.setIfInBounds_toArray, List.set_cons_zero, List.set_cons_succ])
        refine wpS_plain (fun _ => True) (fun _ _ _ _ _ => trivial) (fun _ _ h => h) rfl rfl ?_
        intro KK hKK
        go_big_quiet_op
        go_big_quiet_on
        refine wpS_plain (fun _ => True) (fun _ _ _ _ _ => trivial) (fun _ _ h => h) rfl rfl ?_
        intro KK hKK
        go_big_quiet_op
        go_big_quiet_on
        intro L W9 hall hd
        have HK9 := hid (AsAt.later hd (bid _))
        clear hd hall hcy hne2 hne3
        clear HRS HRR HPS HPR HLN
        go_upto_if 93 with fail
        rw [HQC.out]
        by_cases hjq : (j : Int) = (q0 : Int)
        · go_upto_region 18 with (go_at_call 14; go_must ((with_reducible refine (Clear_any b R _ _ HK9.out.set).mono ?_); rintro e w8 ⟨rfl, hs, hw⟩; have HK8 := hid (HK9.out.putS hs hw); clear hs hw))
          obtain ⟨r0, r1, rf⟩ := HK8.out.ref.facts
          go_wp2_with fail
          go_roundw
          case rel => exact ⟨j + 1, _, _, by omega, by go_num, HK8.out.clearR⟩
          case measure => simp [intOf]; omega
        · go_wp2_with fail
          go_roundw
          case rel => exact ⟨j + 1, _, _, by omega, by go_num, HK9.out⟩
          case measure => simp [intOf]; omega
    · obtain rfl : j = len1 := by omega
      obtain ⟨va, vc, rfl, hrow⟩ := HK.out.ref.list.form
      obtain ⟨n, hn⟩ : ∃ n, n = ws.length := ⟨_, rfl⟩
      have hn32 : n ≤ 32 := by have := HK.out.ref.len; have := HK.out.ref.room; omega
      have HN := hid hn
      rw [← hn] at HK
      have HLN := hid (show (keysL ws).length = n from by rw [keysL_len, hn])
      have HKY := hid (Keys_any b R ws wr HK.out.set)
      have HL60 := hid (show n ≤ 1000 by omega)
      clear hn hrow
      go_upto_region 20 with (go_at_call 15; go_must ((with_reducible refine HKY.out.mono ?_); rintro e w9 ⟨kv, rfl, hk, hb⟩; have HA0 := hid (AkAt.new HK.out hk hb); clear hk hb HKY))
      obtain ⟨ka, kc, hkv⟩ : ∃ ka kc, kv = .slice ka n kc := by
        obtain ⟨a9, c9, h9, _⟩ := HA0.out.keys.form
        rw [HLN.out] at h9
        exact ⟨_, _, h9⟩
      subst hkv
      clear HK
      obtain ⟨r0, r1, rf⟩ := HA0.out.both.ref.facts
      go_wp2_with fail
      clear r0 r1 rf
      go_loopw [12] (fun i W => ∃ m : Nat, m ≤ n ∧ i = .int .i64 m ∧ AkAt w b rb R (.slice va n vc) ws (.slice ka n kc) W) (fun i _ => n - (intOf i).toNat)
      case atStart => exact ⟨0, by omega, rfl, HA0.out⟩
      case round =>
        clear HA0
        obtain ⟨m, hm, rfl, hR⟩ := hrel
        have HK := hid hR
        clear hR
        obtain ⟨r0, r1, rf⟩ := HK.out.both.ref.facts
        by_cases hlt : m < n
        · obtain ⟨p, hp⟩ := word_at (ws := ws) (k := m) (by rw [← HN.out]; exact hlt)
          obtain ⟨va', vc', e, hrow⟩ := HK.out.both.ref.list.form
          simp only [Value.slice.injEq] at e
          obtain ⟨rfl, _, rfl⟩ := e
          obtain ⟨gl, ol, rfl, hgl, hcs⟩ := hrow.at (by rw [← HN.out]; omega)
          obtain ⟨cp0, cp1⟩ := hcs m p hp
          clear hcs hrow
          obtain ⟨ka', kc', e, hkg, _⟩ := HK.out.keys.form
          simp only [Value.slice.injEq] at e
          obtain ⟨rfl, _, rfl⟩ := e
          obtain ⟨gk, rfl⟩ := hkg (by rw [HLN.out]; omega)
          have ck := (HK.out.keys.at (k := m) (by rw [HLN.out]; exact hlt)).1
          rw [keysL_at hp] at ck
          have hgk : gk < wr.heap.size := (HK.out.keys.old rfl).2
          have hrb : rb < wr.heap.size := HK.out.both.ref.lt
          have HA := hid (fun y : Later wr => At_any m p b R ws y.v (HK.out.both.set.below y.below) hp)
          have HH := hid (fun y : Later wr => (show Calls Try.prog 17 #[.pointer (some ⟨b, 0, none⟩), .int .i64 p.1] y.v fun e w' => e = .returned (.bool true) ∧ Below y.v.heap.size y.v w' from by have := Has_any p.1 b R ws y.v (HK.out.both.set.below y.below); rwa [hasL_hit hp rfl] at this))
          clear hp hkg
          obtain ⟨p1, p2⟩ := p
          have hq1 := neq_word p1 p2 p1 p2
          simp only [sameW_self, Bool.not_true] at hq1
          have hq2 := guard_word
          simp only [wv] at HA
          have n1 : (0 : Int) ≤ (m : Int) := by omega
          have n2 : (m : Int) < (n : Int) := by omega
          go_upto_region 25 with fail
          refine wp_region_later (by kernel_rfl) (by kernel_rfl) ?_
          repeat (go_big_quiet_step (first | (go_at_call 16; with_reducible exact later_call (HA.out _)) | (go_at_call 17; with_reducible exact later_call (HH.out _))))
          refine wpQuiet_nil ?_
          rintro _ ⟨y, rfl⟩
          have HKX := hid (HK.out.later y.below)
          clear HK HA HH cp0 cp1 ck r0 r1 rf
          generalize y.v = W6 at HKX ⊢
          clear y
          go_wp2_with fail
          go_roundw
          case rel => exact ⟨m + 1, by omega, by go_num, HKX.out⟩
          case measure => simp [intOf]; omega
        · obtain rfl : m = n := by omega
          have HAN := hid (fun (W : World) (h : SetAt W b R ws) => At_none (-1) b R ws W h (.inl (by decide)))
          have HAE := hid (fun (W : World) (h : SetAt W b R ws) => At_none (m : Int) b R ws W h (.inr (by rw [HN.out]; omega)))
          have HRS := hid (fun (W : World) (h : SetAt W b R ws) => Room_any c b R ws W h)
          have HRR := hid (fun (W : World) (h : IsR W w.heap.size rb R (.slice va m vc) ws) => rRoom_any c w.heap.size rb R (.slice va m vc) ws W h)
          generalize roomL R ws c = q at *
          have hq1 := eq_word 0 0 0 0
          simp only [sameW_self] at hq1
          have hq2 := guard_word
          simp only [wv] at HAN HAE
          cases q
          all_goals
            go_wp2_with (first
              | (go_at_call 6; go_must ((with_reducible refine (told13_any _).mono ?_); rintro e w2 ⟨rfl, hb⟩; have HK := hid (HK.out.later hb); clear hb r0 r1 rf; obtain ⟨r0, r1, rf⟩ := HK.out.both.ref.facts))
              | (go_at_call 16; (first | (with_reducible refine (HAN.out _ HK.out.both.set).mono ?_) | (with_reducible refine (HAE.out _ HK.out.both.set).mono ?_)); rintro e w3 ⟨rfl, hb⟩; have HK := hid (HK.out.later hb); clear hb r0 r1 rf; obtain ⟨r0, r1, rf⟩ := HK.out.both.ref.facts)
              | (go_at_call 9; go_must ((with_reducible refine (HRS.out _ HK.out.both.set).mono ?_); rintro e w4 ⟨rfl, hb⟩; have HK := hid (HK.out.later hb); clear hb r0 r1 rf))
              | (go_at_call 10; go_must ((with_reducible refine (HRR.out _ HK.out.both.ref).mono ?_); rintro e w5 ⟨rfl, hb⟩; have HK := hid (HK.out.later hb); clear hb)))
            go_ret
            exact ⟨rfl, HK.out.both.below⟩

end Go.Proofs.Ytppnhcdmaokjcaa
