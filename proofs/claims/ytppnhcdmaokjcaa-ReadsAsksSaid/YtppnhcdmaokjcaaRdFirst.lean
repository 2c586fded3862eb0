/-
  ReadsFirst: its walk.
-/
import Derived.Test.YtppnhcdmaokjcaaRdRoom
import Derived.Test.YtppnhcdmaokjcaaStageN
namespace Go.Proofs.Ytppnhcdmaokjcaa
open Go.RowKit
attribute [local go_sem] Later.cell Later.frozen

/-- What a large set has behind some Puts. -/
def dL (ws : List Wd) : List Wd := ws.foldl (fun acc p => putL 32 acc p.1 p.2) []
theorem dL_snoc (ws : List Wd) (p : Wd) : dL (ws ++ [p]) = putL 32 (dL ws) p.1 p.2 := by simp [dL]
theorem dL_take {ws : List Wd} {i : Nat} {p : Wd} (h : ws[i]? = some p) : dL (ws.take (i + 1)) = putL 32 (dL (ws.take i)) p.1 p.2 := by rw [take_more h, dL_snoc]
theorem putL_more (R : Nat) (ws : List Wd) (k v : Int) : ∃ r, putL R ws k v = ws ++ r ∧ r.length ≤ 1 := by
  unfold putL
  split
  · exact ⟨[], by simp⟩
  · split
    · exact ⟨[(k, v)], by simp⟩
    · exact ⟨[], by simp⟩
theorem hasL_put {R : Nat} {ws : List Wd} {k : Int} (v : Int) (h : ws.length < R) : hasL (putL R ws k v) k = true := by
  cases hh : hasL ws k with
  | true => rw [putL_there v hh]; exact hh
  | false => rw [putL_new v hh h, hasL_snoc]; simp
theorem dL_fold : ∀ (vs acc : List Wd), ∃ r, vs.foldl (fun acc p => putL 32 acc p.1 p.2) acc = acc ++ r ∧ r.length ≤ vs.length
  | [], acc => ⟨[], by simp⟩
  | p :: vs, acc => by
    obtain ⟨r1, h1, l1⟩ := putL_more 32 acc p.1 p.2
    obtain ⟨r2, h2, l2⟩ := dL_fold vs (putL 32 acc p.1 p.2)
    refine ⟨r1 ++ r2, ?_, by simp; omega⟩
    rw [List.foldl_cons, h2, h1, List.append_assoc]
theorem dL_len (ws : List Wd) : (dL ws).length ≤ ws.length := by
  obtain ⟨r, h, l⟩ := dL_fold ws []
  unfold dL
  rw [h]
  simpa using l
theorem dL_pre (ws : List Wd) (i : Nat) : ∃ r, dL ws = dL (ws.take i) ++ r := by
  obtain ⟨r, h, _⟩ := dL_fold (ws.drop i) (dL (ws.take i))
  refine ⟨r, ?_⟩
  rw [← h]
  unfold dL
  rw [← List.foldl_append, List.take_append_drop]
theorem hasL_put_iff {R : Nat} {ws : List Wd} {k v q : Int} (h : ws.length < R) : hasL (putL R ws k v) q = (hasL ws q || k == q) := by
  cases hh : hasL ws k with
  | true =>
    rw [putL_there v hh]
    by_cases e : k = q
    · subst e; rw [hh]; rfl
    · rw [show (k == q) = false by simpa using e, Bool.or_false]
  | false => rw [putL_new v hh h, hasL_snoc]
theorem dL_has {ws : List Wd} (hl : ws.length ≤ 32) (k : Int) : ∀ i, i ≤ ws.length → hasL (dL (ws.take i)) k = hasL (ws.take i) k
  | 0, _ => by simp [dL]
  | i + 1, h => by
    obtain ⟨p, hp⟩ := word_at (ws := ws) (k := i) (by omega)
    have h1 := dL_len (ws.take i)
    rw [List.length_take] at h1
    rw [dL_take hp, hasL_put_iff (by omega), dL_has hl k i (by omega), hasL_take hp]
/-- The i-th is the first of its key: there it stands. -/
theorem dL_first {ws : List Wd} (hl : ws.length ≤ 32) {i : Nat} {p : Wd} (hp : ws[i]? = some p) (hf : hasL (ws.take i) p.1 = false) :
    dL (ws.take (i + 1)) = dL (ws.take i) ++ [p] ∧ (dL ws)[(dL (ws.take i)).length]? = some p := by
  have hi := (List.getElem?_eq_some_iff.1 hp).1
  have h1 := dL_len (ws.take i)
  rw [List.length_take] at h1
  have e : dL (ws.take (i + 1)) = dL (ws.take i) ++ [p] := by
    rw [dL_take hp, putL_new _ (by rw [dL_has hl p.1 i (by omega)]; exact hf) (by omega)]
  refine ⟨e, ?_⟩
  obtain ⟨r, hr⟩ := dL_pre ws (i + 1)
  rw [hr, e, List.append_assoc, List.getElem?_append_right (Nat.le_refl _), Nat.sub_self]
  rfl
theorem dL_again {ws : List Wd} (hl : ws.length ≤ 32) {i : Nat} {p : Wd} (hp : ws[i]? = some p) (hf : hasL (ws.take i) p.1 = true) : dL (ws.take (i + 1)) = dL (ws.take i) := by
  have hi := (List.getElem?_eq_some_iff.1 hp).1
  rw [dL_take hp, putL_there _ (by rw [dL_has hl p.1 i (by omega)]; exact hf)]

/-- The stages of a round of Puts: the first of the two. -/
def FsD (w : World) (b : Nat) (ws0 ws1 : List Wd) (L : Nat → Bool) (W : World) : Prop := RmAt w b 32 (bif L 11 then ws1 else ws0) W
section
variable {w : World} {b : Nat} {ws0 ws1 : List Wd} {L : Nat → Bool} {W : World}
theorem FsD.start (hL : ∀ j, L j = false) (h : RmAt w b 32 ws0 W) : FsD w b ws0 ws1 L W.drew := by
  unfold FsD; rw [hL 11]; exact h.later ⟨rfl, rfl, rfl, Nat.le_refl _, fun _ _ => rfl⟩
theorem FsD.no (h : FsD w b ws0 ws1 L W) (hL : L 11 = false) : RmAt w b 32 ws0 W := by unfold FsD at h; rw [hL] at h; exact h
theorem FsD.yes (h : FsD w b ws0 ws1 L W) (hL : L 11 = true) : RmAt w b 32 ws1 W := by unfold FsD at h; rw [hL] at h; exact h
theorem FsD.of (h : RmAt w b 32 ws1 W) (hL : L 11 = true) : FsD w b ws0 ws1 L W := by unfold FsD; rw [hL]; exact h
theorem FsD.same {k : Nat} (hk : 11 ≠ k) (h : FsD w b ws0 ws1 L W) : FsD w b ws0 ws1 (bump L k) W := by unfold FsD at h ⊢; rw [bump_ne L hk]; exact h
theorem FsD.below (h : FsD w b ws0 ws1 L W) : Below w.heap.size w W := RmAt.below h
end

set_option maxRecDepth 100000 in
set_option maxHeartbeats 4000000 in
theorem first_any (a0 : Option Addr) (len0 cap0 : Nat) (ls : List Wd) (x : Int) (w : World) (hr : WRow w a0 len0 ls) :
    Calls Try.prog 4 #[.slice a0 len0 cap0, .int .i64 x] w fun e w' => e = .returned (.bool true) ∧ Below w.heap.size w w' := by
  have HR0 := hid hr
  have HLEN := hid hr.cnt
  clear hr
  by_cases h0 : (len0 : Int) < 1
  · go_enter Try.func4, Try.ntmps4
    go_wp2_with (go_at_call 6; go_must ((with_reducible refine (told13_any _).mono ?_); rintro e w1 ⟨rfl, hb1⟩))
    go_ret
    exact ⟨rfl, hb1⟩
  by_cases h1 : (30 : Int) < (len0 : Int)
  · go_enter Try.func4, Try.ntmps4
    go_wp2_with (go_at_call 6; go_must ((with_reducible refine (told13_any _).mono ?_); rintro e w1 ⟨rfl, hb1⟩))
    go_ret
    exact ⟨rfl, hb1⟩
  have HNW := hid (show Calls Try.prog 7 #[.int .i64 32] w (NewRet w 32) from New_any 32 w)
  go_enter Try.func4, Try.ntmps4
  go_upto_region 4 with (go_at_call 7; go_must ((with_reducible refine HNW.out.mono ?_); rintro e w1 ⟨b, rfl, hwb, hs, hb⟩; have HK0 := hid (RmAt.mk hs hwb hb); clear hs hb hwb HNW))
  go_wp2_with fail
  go_loopw [6] (fun i W => ∃ j : Nat, j ≤ len0 ∧ i = .int .i64 j ∧ RmAt w b 32 (dL (ls.take j)) W) (fun i _ => len0 - (intOf i).toNat)
  case atStart => exact ⟨0, by omega, rfl, HK0.out⟩
  case round =>
    clear HK0
    obtain ⟨j, hj, rfl, hR⟩ := hrel
    have HK := hid hR
    clear hR
    by_cases hlt : j < len0
    · obtain ⟨p, hp⟩ := word_at (ws := ls) (k := j) (by rw [HLEN.out]; exact hlt)
      obtain ⟨g, off, rfl, hg, _⟩ := HR0.out.at (by omega)
      have hcs := fun (y : Sat (fun W => Below w.heap.size w W)) => (show WAt y.v g (off + j * 2) p from by
        obtain ⟨g', off', e, _, h⟩ := (HR0.out.below y.p).at (by omega)
        simp only [Option.some.injEq, Addr.mk.injEq, and_true] at e
        obtain ⟨rfl, rfl⟩ := e
        exact h j p hp)
      have y0 := fun y => (hcs y).c0
      have y1 := fun y => (hcs y).c1
      clear hcs
      have n1 : (0 : Int) ≤ (j : Int) := by omega
      have n2 : (j : Int) < (len0 : Int) := by omega
      have hdl : (dL (ls.take j)).length < 32 := by
        have := dL_len (ls.take j)
        rw [List.length_take] at this
        omega
      have HP1 := hid (fun (W : World) (h : SetAt W b 32 (dL (ls.take j))) => (show Calls Try.prog 11 #[.pointer (some ⟨b, 0, none⟩), .int .i64 p.1, .int .i64 p.2] W fun e w' => e = .returned (.bool true) ∧ SetAt w' b 32 (dL (ls.take (j + 1))) ∧ Wrote (fun j => j = b) W w' from by
        have := Put_any p.1 p.2 b 32 _ W h
        unfold PutRet at this
        rwa [show roomL 32 (dL (ls.take j)) p.1 = true from by unfold roomL; rw [decide_eq_true hdl, Bool.or_true], ← dL_take hp] at this))
      have HP2 := hid (fun (W : World) (h : SetAt W b 32 (dL (ls.take (j + 1)))) => (show Calls Try.prog 11 #[.pointer (some ⟨b, 0, none⟩), .int .i64 p.1, .int .i64 x] W fun e w' => e = .returned (.bool true) ∧ SetAt w' b 32 (dL (ls.take (j + 1))) ∧ Wrote (fun j => j = b) W w' from by
        have hh : hasL (dL (ls.take (j + 1))) p.1 = true := by rw [dL_take hp]; exact hasL_put p.2 hdl
        have := Put_any p.1 x b 32 _ W h
        unfold PutRet at this
        rwa [show roomL 32 (dL (ls.take (j + 1))) p.1 = true from by unfold roomL; rw [hh]; rfl, putL_there _ hh] at this))
      clear hdl hp
      obtain ⟨p1, p2⟩ := p
      generalize hws1 : dL (ls.take (j + 1)) = ws1 at *
      have HWS := hid hws1
      clear hws1
      generalize dL (ls.take j) = ws0 at *
      go_upto_region 9 with fail
      have hne1 : Nonempty (Sat (fun W => Below w.heap.size w W)) := ⟨⟨_, HK.out.below⟩⟩
      have hne2 : Nonempty (Sat (fun _ => True)) := ⟨⟨w, trivial⟩⟩
      refine wp_region_staged (FsD w b ws0 ws1) (by kernel_rfl) (by kernel_rfl) (fun L hL => FsD.start hL HK.out) ?_
      refine wpS_plain (fun _ => True) (fun _ _ _ _ _ => trivial) (fun _ _ h => FsD.same (k := 0) (by decide) h) rfl rfl ?_
      intro KK hKK
      go_big_quiet_op
      go_big_quiet_on
      refine wpS_plain (fun _ => True) (fun _ _ _ _ _ => trivial) (fun _ _ h => FsD.same (k := 1) (by decide) h) rfl rfl ?_
      intro KK hKK
      go_big_quiet_op
      go_big_quiet_on
      refine wpS_plain (fun _ => True) (fun _ _ _ _ _ => trivial) (fun _ _ h => FsD.same (k := 2) (by decide) h) rfl rfl ?_
      intro KK hKK
      go_big_quiet_op
      go_big_quiet_on
      refine wpS_plain (fun _ => True) (fun _ _ _ _ _ => trivial) (fun _ _ h => FsD.same (k := 3) (by decide) h) rfl rfl ?_
      intro KK hKK
      go_big_quiet_op
      go_big_quiet_on
      refine wpS_plain (fun _ => True) (fun _ _ _ _ _ => trivial) (fun _ _ h => FsD.same (k := 4) (by decide) h) rfl rfl ?_
      intro KK hKK
      go_big_quiet_op
      go_big_quiet_on
      refine wpS_plain (fun W => Below w.heap.size w W) (fun _ _ _ _ hd => FsD.below hd) (fun _ _ h => FsD.same (k := 5) (by decide) h) rfl rfl ?_
      intro KK hKK
      go_big_quiet_op
      go_big_quiet_on
      refine wpS_plain (fun _ => True) (fun _ _ _ _ _ => trivial) (fun _ _ h => FsD.same (k := 6) (by decide) h) rfl rfl ?_
      intro KK hKK
      go_big_quiet_op
      go_big_quiet_on
      refine wpS_plain (fun _ => True) (fun _ _ _ _ _ => trivial) (fun _ _ h => FsD.same (k := 7) (by decide) h) rfl rfl ?_
      intro KK hKK
      go_big_quiet_op
      go_big_quiet_on
      refine wpS_plain (fun _ => True) (fun _ _ _ _ _ => trivial) (fun _ _ h => FsD.same (k := 8) (by decide) h) rfl rfl ?_
      intro KK hKK
      go_big_quiet_op
      go_big_quiet_on
      refine wpS_plain (fun _ => True) (fun _ _ _ _ _ => trivial) (fun _ _ h => FsD.same (k := 9) (by decide) h) rfl rfl ?_
      intro KK hKK
      go_big_quiet_op
      go_big_quiet_on
      refine wpS_plain (fun W => Below w.heap.size w W) (fun _ _ _ _ hd => FsD.below hd) (fun _ _ h => FsD.same (k := 10) (by decide) h) rfl rfl ?_
      intro KK hKK
      go_big_quiet_op
      go_big_quiet_on
      refine wpS_call 11 #[.pointer (some ⟨b, 0, none⟩), .int .i64 p1, .int .i64 p2] (.bool true) rfl (fun _ => by go_simp) ?_ ?_
      · intro L W hL hcl hd
        have hd1 := FsD.no hd hL
        refine (HP1.out _ hd1.set).mono ?_
        rintro e w'' ⟨rfl, hs, hw⟩
        exact ⟨rfl, FsD.of (hd1.put hs hw) (bump_at _ _)⟩
      (try simp only [Act.put, List.getElem_toArray, List.getElem_cons_zero, List.getElem_cons_succ, List.setIfInBounds_toArray, List.set_cons_zero, List.set_cons_succ])
      refine wpS_plain (fun _ => True) (fun _ _ _ _ _ => trivial) (fun _ _ h => FsD.same (k := 12) (by decide) h) rfl rfl ?_
      intro KK hKK
      go_big_quiet_op
      go_big_quiet_on
      refine wpS_plain (fun _ => True) (fun _ _ _ _ _ => trivial) (fun _ _ h => FsD.same (k := 13) (by decide) h) rfl rfl ?_
      intro KK hKK
      go_big_quiet_op
      go_big_quiet_on
      refine wpS_plain (fun _ => True) (fun _ _ _ _ _ => trivial) (fun _ _ h => FsD.same (k := 14) (by decide) h) rfl rfl ?_
      intro KK hKK
      go_big_quiet_op
      go_big_quiet_on
      refine wpS_plain (fun _ => True) (fun _ _ _ _ _ => trivial) (fun _ _ h => FsD.same (k := 15) (by decide) h) rfl rfl ?_
      intro KK hKK
      go_big_quiet_op
      go_big_quiet_on
      refine wpS_plain (fun _ => True) (fun _ _ _ _ _ => trivial) (fun _ _ h => FsD.same (k := 16) (by decide) h) rfl rfl ?_
      intro KK hKK
      go_big_quiet_op
      go_big_quiet_on
      refine wpS_plain (fun _ => True) (fun _ _ _ _ _ => trivial) (fun _ _ h => FsD.same (k := 17) (by decide) h) rfl rfl ?_
      intro KK hKK
      go_big_quiet_op
      go_big_quiet_on
      refine wpS_plain (fun _ => True) (fun _ _ _ _ _ => trivial) (fun _ _ h => FsD.same (k := 18) (by decide) h) rfl rfl ?_
      intro KK hKK
      go_big_quiet_op
      go_big_quiet_on
      refine wpS_plain (fun W => Below w.heap.size w W) (fun _ _ _ _ hd => FsD.below hd) (fun _ _ h => FsD.same (k := 19) (by decide) h) rfl rfl ?_
      intro KK hKK
      go_big_quiet_op
      go_big_quiet_on
      refine wpS_plain (fun _ => True) (fun _ _ _ _ _ => trivial) (fun _ _ h => FsD.same (k := 20) (by decide) h) rfl rfl ?_
      intro KK hKK
      go_big_quiet_op
      go_big_quiet_on
      refine wpS_call 11 #[.pointer (some ⟨b, 0, none⟩), .int .i64 p1, .int .i64 x] (.bool true) rfl (fun _ => by go_simp) ?_ ?_
      · intro L W hL hcl hd
        have h13 := hcl.dep (i := 13) (by kernel_rfl)
        have h11 := hcl.closed.yes (i := 11) h13 (by kernel_rfl)
        have hd1 := FsD.yes hd h11
        refine (HP2.out _ hd1.set).mono ?_
        rintro e w'' ⟨rfl, hs, hw⟩
        exact ⟨rfl, FsD.of (hd1.put hs hw) (by rw [bump_ne L (by decide)]; exact h11)⟩
      (try simp only [Act.put, List.getElem_toArray, List.getElem_cons_zero, List.getElem_cons_succ, List.setIfInBounds_toArray, List.set_cons_zero, List.set_cons_succ])
      refine wpS_plain (fun _ => True) (fun _ _ _ _ _ => trivial) (fun _ _ h => FsD.same (k := 22) (by decide) h) rfl rfl ?_
      intro KK hKK
      go_big_quiet_op
      go_big_quiet_on
      refine wpS_plain (fun _ => True) (fun _ _ _ _ _ => trivial) (fun _ _ h => FsD.same (k := 23) (by decide) h) rfl rfl ?_
      intro KK hKK
      go_big_quiet_op
      go_big_quiet_on
      intro L W hall hd
      have HK9 := hid (FsD.yes hd (hall 11 (by decide)))
      clear hd hall y0 y1 hne1 hne2 HP1 HP2
      go_wp2_with fail
      go_roundw
      case rel => exact ⟨j + 1, by omega, by go_num, by rw [HWS.out]; exact HK9.out⟩
      case measure => simp [intOf]; omega
    · obtain rfl : j = len0 := by omega
      have HK0 := hid (show RmAt w b 32 (dL ls) wr from by have h := HK.out; rwa [← HLEN.out, List.take_length] at h)
      have HD := hid (dL_len ls)
      clear HK hlt hj
      have hl32 : j ≤ 32 := by omega
      have HL32 := hid (show ls.length ≤ 32 by rw [HLEN.out]; exact hl32)
      generalize j = len0 at *
      go_wp2_with fail
      go_loopw [7, 8] (fun n i W => ∃ j : Nat, j ≤ len0 ∧ i = .int .i64 j ∧ n = .int .i64 (dL (ls.take j)).length ∧ RmAt w b 32 (dL ls) W) (fun _ i _ => len0 - (intOf i).toNat)
      case atStart => exact ⟨0, by omega, rfl, rfl, HK0.out⟩
      case round =>
        clear HK0
        obtain ⟨j, hj, rfl, rfl, hR⟩ := hrel
        have HK := hid hR
        clear hR
        by_cases hlt : j < len0
        · obtain ⟨p, hp⟩ := word_at (ws := ls) (k := j) (by rw [HLEN.out]; exact hlt)
          have HP := hid hp
          clear hp
          have n1 : (0 : Int) ≤ (j : Int) := by omega
          have n2 : (j : Int) < (len0 : Int) := by omega
          have hdn : (dL (ls.take j)).length ≤ 32 := by
            have := dL_len (ls.take j)
            rw [List.length_take] at this
            omega
          have HDN := hid hdn
          generalize hnn : (dL (ls.take j)).length = n at *
          have HNN := hid hnn
          clear hnn hdn
          go_wp2_with fail
          go_loopw [9, 10] (fun f q W => ∃ (m : Nat) (bf : Bool), m ≤ j ∧ q = .int .i64 m ∧ f = .bool bf ∧ hasL (ls.take m) p.1 = !bf ∧ RmAt w b 32 (dL ls) W) (fun _ q _ => j - (intOf q).toNat)
          case atStart => exact ⟨0, true, by omega, rfl, rfl, rfl, HK.out⟩
          case round =>
            clear HK
            obtain ⟨m, bf, hm, rfl, rfl, hh, hR⟩ := hrel
            have HK := hid hR
            clear hR
            obtain ⟨g, off, rfl, hg, hcs⟩ := (HR0.out.below HK.out.below).at (by omega)
            obtain ⟨cp0, cp1⟩ := hcs j p HP.out
            by_cases hltm : m < j
            · obtain ⟨q, hq⟩ := word_at (ws := ls) (k := m) (by rw [HLEN.out]; omega)
              obtain ⟨cq0, cq1⟩ := hcs m q hq
              have HS := hid (hasL_take hq p.1)
              clear hcs hq
              have m1 : (0 : Int) ≤ (m : Int) := by omega
              have m2 : (m : Int) < (len0 : Int) := by omega
              have m3 : (m : Int) < (j : Int) := by omega
              obtain ⟨p1, p2⟩ := p
              obtain ⟨q1, q2⟩ := q
              simp only at HS
              cases bf
              · have HS2 := hid (show hasL (ls.take (m + 1)) p1 = !false from by rw [HS.out, hh]; rfl)
                clear hh HS
                go_upto_region 19 with fail
                go_quiet (fail)
                go_wp2_with fail
                go_roundw
                case rel => exact ⟨m + 1, _, by omega, by go_num, rfl, HS2.out, HK.out.later ⟨rfl, rfl, rfl, Nat.le_refl _, fun _ _ => rfl⟩⟩
                case measure => simp [intOf]; omega
              · have HS2 := hid (show hasL (ls.take (m + 1)) p1 = !(q1 != p1) from by rw [HS.out, hh]; simp [bne])
                clear hh HS
                go_upto_region 19 with fail
                go_quiet (fail)
                go_wp2_with fail
                go_roundw
                case rel => exact ⟨m + 1, _, by omega, by go_num, rfl, HS2.out, HK.out.later ⟨rfl, rfl, rfl, Nat.le_refl _, fun _ _ => rfl⟩⟩
                case measure => simp [intOf]; omega
            · obtain rfl : m = j := by omega
              clear hcs
              cases bf
              rotate_left
              · obtain ⟨he, ha⟩ := dL_first HL32.out HP.out hh
                rw [HNN.out] at ha
                have HE := hid (show (dL (ls.take (m + 1))).length = n + 1 from by rw [he, List.length_append, HNN.out]; rfl)
                have HA := hid (fun y : Later wr => At_any n p b 32 (dL ls) y.v (HK.out.set.below y.below) ha)
                clear he ha hh
                obtain ⟨p1, p2⟩ := p
                have hq1 := neq_word p1 p2 p1 p2
                simp only [sameW_self, Bool.not_true] at hq1
                have hq2 := guard_word
                simp only [wv] at HA
                go_upto_region 21 with fail
                refine wp_region_later (by kernel_rfl) (by kernel_rfl) ?_
                repeat (go_big_quiet_step ((go_at_call 16; with_reducible exact later_call (HA.out _))))
                refine wpQuiet_nil ?_
                rintro _ ⟨y, rfl⟩
                have HKX := hid (HK.out.later y.below)
                clear HK HA cp0 cp1
                generalize y.v = W6 at HKX ⊢
                clear y
                go_wp2_with fail
                go_roundw
                case rel => exact ⟨m + 1, by omega, by go_num, by rw [HE.out, wrap_in (by have := HDN.out; omega) (by have := HDN.out; omega)]; rfl, HKX.out⟩
                case measure => simp [intOf]; omega
              · have HE := hid (show (dL (ls.take (m + 1))).length = n from by rw [dL_again HL32.out HP.out hh, HNN.out])
                clear hh
                go_wp2_with fail
                go_roundw
                case rel => exact ⟨m + 1, by omega, by go_num, by rw [HE.out], HK.out⟩
                case measure => simp [intOf]; omega
        · obtain rfl : j = len0 := by omega
          have HE := hid (show (dL (ls.take j)).length = (dL ls).length from by rw [← HLEN.out, List.take_length])
          have HLN := hid (fun (W : World) (h : SetAt W b 32 (dL ls)) => Len_any b 32 (dL ls) W h)
          rw [HE.out]
          go_wp2_with (first
            | (go_at_call 6; go_must ((with_reducible refine (told13_any _).mono ?_); rintro e w2 ⟨rfl, hb⟩; have HK := hid (HK.out.later hb); clear hb))
            | (go_at_call 13; go_must ((with_reducible refine (HLN.out _ HK.out.set).mono ?_); rintro e w3 ⟨rfl, hb⟩; have HK := hid (HK.out.later hb); clear hb)))
          go_ret
          exact ⟨rfl, HK.out.below⟩

end Go.Proofs.Ytppnhcdmaokjcaa
