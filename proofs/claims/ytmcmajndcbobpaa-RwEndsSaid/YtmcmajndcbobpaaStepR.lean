/-
  A step of one of four hands at a lock with readers.
-/
import Derived.Test.YtmcmajndcbobpaaCrowd
namespace Go.Proofs.Ytmcmajndcbobpaa
open Go.RowKit
attribute [local go_sem] Later.cell Later.frozen

/-- The hand with which one goes on. -/
def crH (h : HD) (o : Bool) (k : Nat) (read : Bool) : HD := if h.s = 0 ∧ o = false then ⟨k, 0, 0, read, 0⟩ else h
def crO (h : HD) (o leave : Bool) : Bool := o || (decide (h.s = 9) && leave)
/-- .. the memory, the hand, whether it is on its way out, how often it had the lock. -/
structure CS where
  s : MS
  h : HD
  o : Bool
  n : Int
def crStep (s : MS) (h : HD) (o : Bool) (n : Int) (k : Nat) (read leave : Bool) : CS :=
  if crO (crH h o k read) o leave = true then
    if (rwDrop mp4 s (crH h o k read)).1.s = 0 then ⟨(rwDrop mp4 s (crH h o k read)).2, (rwDrop mp4 s (crH h o k read)).1, false, wrap64 (n + 1)⟩
    else ⟨(rwDrop mp4 s (crH h o k read)).2, (rwDrop mp4 s (crH h o k read)).1, true, n⟩
  else ⟨(rwTake mp4 s (crH h o k read)).2, (rwTake mp4 s (crH h o k read)).1, o, n⟩

def StepRet (w : World) (qc B b : Nat) (vw : Value) (hs : Nat → HD) (os : Nat → Bool) (ns : Nat → Int) (k : Nat) (c : CS) (e : Ending) (W : World) : Prop :=
  e = .returned (.tuple #[]) ∧ Mem W B b vw c.s ∧ CrAt W qc (upd hs k c.h) (updV os k c.o) (updV ns k c.n) ∧ Wrote (fun j => MemS b vw j ∨ j = qc) w W
theorem StAt.ret {w : World} {q qc B b : Nat} {vw : Value} {s : MS} {hs hs' : Nat → HD} {os os' : Nat → Bool} {ns ns' : Nat → Int} {W : World} {k : Nat} {c : CS} (h : StAt w q qc B b vw s hs' os' ns' W)
    (h1 : c.s = s) (h2 : upd hs k c.h = hs') (h3 : updV os k c.o = os') (h4 : updV ns k c.n = ns') : StepRet w qc B b vw hs os ns k c (.returned (.tuple #[])) W := by
  subst h1 h2 h3 h4
  exact ⟨rfl, h.mem, h.cr, h.wrote⟩
theorem updV_same {α : Type} (f : Nat → α) (k : Nat) : updV f k (f k) = f := by
  funext j
  by_cases e : j = k
  · rw [e, updV_at]
  · rw [updV_ne e]
theorem updV_twice {α : Type} (f : Nat → α) (k : Nat) (a b : α) : updV (updV f k a) k b = updV f k b := by
  funext j
  by_cases e : j = k
  · rw [e, updV_at, updV_at]
  · rw [updV_ne e, updV_ne e, updV_ne e]
theorem upd_twice (f : Nat → HD) (k : Nat) (a b : HD) : upd (upd f k a) k b = upd f k b := updV_twice f k a b
theorem upd_self (f : Nat → HD) (k : Nat) : upd f k (f k) = f := updV_same f k

set_option maxRecDepth 100000 in
set_option maxHeartbeats 8000000 in
theorem step_any (w : World) (qc B b : Nat) (vw : Value) (s : MS) (hs : Nat → HD) (os : Nat → Bool) (ns : Nat → Int) (k : Nat) (hk4 : k < 4) (read leave : Bool) (hm : Mem w B b vw s) (hz : s.zs.length = 48) (hc : CrAt w qc hs os ns) (fr : ¬ MemS b vw qc) :
    Calls Try.prog 26 #[.pointer (some ⟨qc, 0, none⟩), mp4.v, .pointer (some ⟨b, 0, none⟩), .int .i64 k, .bool read, .bool leave] w (StepRet w qc B b vw hs os ns k (crStep s (hs k) (os k) (ns k) k read leave)) := by
  have HST := hid (show StAt w w.heap.size qc B b vw s hs os ns (w.alloc (.cells mp4.cells 26)) from
    ⟨MapAt.new _ w mp4, hm.kept (Wrote.of_below (bnew (bid w) _) (fun _ => False)) (fun _ _ h => h), hc.below (bnew (bid w) _), fr, hm.hold, Nat.le_refl _, hc.lt, Wrote.of_below (bnew (bid w) _) _⟩)
  have HLEN := hid hz
  clear hm hc fr hz
  have k1 : (0 : Int) ≤ (k : Int) := by omega
  have k2 : (k : Int) < 4 := by omega
  show Calls _ _ #[_, .agg #[.int .i64 2, .int .i64 2, .int .i64 4, .int .i64 0, .int .i64 2], _, _, _, _] _ _
  go_enter Try.func26, Try.ntmps26
  go_upto_region 1 with fail
  refine wp_rename (fun W => StAt w w.heap.size qc B b vw s hs os ns W) HST.out ?_
  generalize w.heap.size = q
  clear HST
  intro W hk
  have HK := hid hk
  obtain ⟨e0, e1, e2, e3, e4, e5, e6, ef⟩ := HK.out.cr.facts hk4
  clear hk
  go_cut [28] (fun v W => v = .bool (decide ((hs k).s = 0) && !(os k)) ∧ StAt w q qc B b vw s hs os ns W)
  case first =>
    by_cases c0 : (hs k).s = 0
    · cases c1 : os k
      · rw [c1] at e5
        go_wp2_with fail
        go_meet
        case rel => exact ⟨by simp [c0, c1], HK.out⟩
      · rw [c1] at e5
        go_wp2_with fail
        go_meet
        case rel => exact ⟨by simp [c1], HK.out⟩
    · go_wp2_with fail
      go_meet
      case rel => exact ⟨by simp [c0], HK.out⟩
  case rest =>
    clear HK e0 e1 e2 e3 e4 e5 e6 ef
    obtain ⟨rfl, hk⟩ := hcut
    have HK := hid hk
    obtain ⟨e0, e1, e2, e3, e4, e5, e6, ef⟩ := HK.out.cr.facts hk4
    clear hk
    go_upto_if 28 with fail
    go_cut [] (fun W => StAt w q qc B b vw s (upd hs k (crH (hs k) (os k) k read)) os ns W)
    case first =>
      by_cases c0 : (hs k).s = 0 ∧ os k = false
      · have hd : (decide ((hs k).s = 0) && !(os k)) = true := by simp [c0.1, c0.2]
        rw [hd]
        go_wp2_with fail
        go_meet
        case rel => unfold crH; rw [if_pos c0]; exact HK.out.setH hk4 ⟨k, 0, 0, read, 0⟩
      · have hd : (decide ((hs k).s = 0) && !(os k)) = false := by
          cases h : os k <;> simp [h] at c0 ⊢
          exact c0
        rw [hd]
        go_wp2_with fail
        go_meet
        case rel => unfold crH; rw [if_neg c0, upd_self]; exact HK.out
    case rest =>
      clear HK e0 e1 e2 e3 e4 e5 e6 ef
      have HK := hid hcut
      clear hcut
      have HN1 := hid (show crStep s (hs k) (os k) (ns k) k read leave = (if crO (crH (hs k) (os k) k read) (os k) leave = true then
        if (rwDrop mp4 s (crH (hs k) (os k) k read)).1.s = 0 then (⟨(rwDrop mp4 s (crH (hs k) (os k) k read)).2, (rwDrop mp4 s (crH (hs k) (os k) k read)).1, false, wrap64 (ns k + 1)⟩ : CS)
        else ⟨(rwDrop mp4 s (crH (hs k) (os k) k read)).2, (rwDrop mp4 s (crH (hs k) (os k) k read)).1, true, ns k⟩
        else ⟨(rwTake mp4 s (crH (hs k) (os k) k read)).2, (rwTake mp4 s (crH (hs k) (os k) k read)).1, os k, ns k⟩) from rfl)
      have HUP := hid (show upd hs k (crH (hs k) (os k) k read) k = crH (hs k) (os k) k read from upd_at _ _ _)
      have HTW := hid (fun g : HD => (show upd (upd hs k (crH (hs k) (os k) k read)) k g = upd hs k g from upd_twice _ _ _ _))
      generalize crStep s (hs k) (os k) (ns k) k read leave = cs at *
      generalize crH (hs k) (os k) k read = hh at *
      generalize hhs : upd hs k hh = hs2 at *
      rw [← HUP.out] at HN1
      clear hhs
      obtain ⟨e0, e1, e2, e3, e4, e5, e6, ef⟩ := HK.out.cr.facts hk4
      go_upto_region 3 with fail
      go_cut [47] (fun v W => v = .bool (decide ((hs2 k).s = 9) && leave) ∧ StAt w q qc B b vw s hs2 os ns W)
      case first =>
        by_cases c9 : (hs2 k).s = 9
        · go_wp2_with fail
          go_meet
          case rel => exact ⟨by simp [c9], HK.out⟩
        · go_wp2_with fail
          go_meet
          case rel => exact ⟨by simp [c9], HK.out⟩
      case rest =>
        clear HK e0 e1 e2 e3 e4 e5 e6 ef
        obtain ⟨rfl, hk⟩ := hcut
        have HK := hid hk
        obtain ⟨e0, e1, e2, e3, e4, e5, e6, ef⟩ := HK.out.cr.facts hk4
        clear hk
        go_upto_if 47 with fail
        go_cut [] (fun W => ∃ os2, os2 k = crO (hs2 k) (os k) leave ∧ (∀ v, updV os2 k v = updV os k v) ∧ StAt w q qc B b vw s hs2 os2 ns W)
        case first =>
          cases hd : (decide ((hs2 k).s = 9) && leave)
          · go_wp2_with fail
            go_meet
            case rel => exact ⟨os, by unfold crO; rw [hd]; simp, fun _ => rfl, HK.out⟩
          · go_wp2_with fail
            go_meet
            case rel => exact ⟨updV os k true, by unfold crO; rw [hd, updV_at]; simp, fun v => updV_twice _ _ _ _, HK.out.setO hk4 true⟩
        case rest =>
          clear HK e0 e1 e2 e3 e4 e5 e6 ef
          obtain ⟨os2, ho2, htw, hk⟩ := hcut
          have HK := hid hk
          have HTO := hid htw
          rw [← ho2] at HN1
          have HOS := hid (show os2 k = false → os k = false from fun h => by rw [ho2] at h; unfold crO at h; simp at h; exact h.1)
          clear hk htw ho2
          obtain ⟨e0, e1, e2, e3, e4, e5, e6, ef⟩ := HK.out.cr.facts hk4
          have HTK := hid (fun (x : World) (hm : Mem x B b vw s) => rwTake_any mp4 (hs2 k) x _ b vw s hm (by rw [mp4_size, HLEN.out]; decide))
          have HDR := hid (fun (x : World) (hm : Mem x B b vw s) => rwDrop_any mp4 (hs2 k) x _ b vw s hm (by rw [mp4_size, HLEN.out]; decide))
          cases hos : os2 k
          · rw [hos] at e5 HN1
            go_upto_region 10 with fail
            clear e0 e1 e2 e3 e4 e5 e6 ef
            have hne1 : Nonempty (Sat (fun W => ∃ s, StAt w q qc B b vw s hs2 os2 ns W)) := ⟨⟨_, _, HK.out⟩⟩
            have hne2 : Nonempty (Sat (fun _ => True)) := ⟨⟨w, trivial⟩⟩
            have hcells := fun (x : Sat (fun W => ∃ s, StAt w q qc B b vw s hs2 os2 ns W)) => StAt.satCells x hk4
            have y0 := fun x => (hcells x).1
            have y1 := fun x => (hcells x).2.1
            have y2 := fun x => (hcells x).2.2.1
            have y3 := fun x => (hcells x).2.2.2.1
            have y4 := fun x => (hcells x).2.2.2.2.1
            have y5 := fun x => (hcells x).2.2.2.2.2.1
            have y6 := fun x => (hcells x).2.2.2.2.2.2.1
            have y7 := fun x => (hcells x).2.2.2.2.2.2.2.1
            have y8 := fun x => (hcells x).2.2.2.2.2.2.2.2.1
            have y9 := fun x => (hcells x).2.2.2.2.2.2.2.2.2
            clear hcells
            refine wp_region_staged (StD w q qc B b vw s (rwTake mp4 s (hs2 k)).2 hs2 k (rwTake mp4 s (hs2 k)).1 os2 ns) (by kernel_rfl) (by kernel_rfl) (fun L hL => StD.start hL HK.out) ?_
            refine wpS_plain (fun _ => True) (fun _ _ _ _ _ => trivial) (fun _ _ h => h) rfl rfl ?_
            intro KK hKK
            go_big_quiet_op
            go_big_quiet_on
            refine wpS_plain (fun _ => True) (fun _ _ _ _ _ => trivial) (fun _ _ h => h) rfl rfl ?_
            intro KK hKK
            go_big_quiet_op
            go_big_quiet_on
            refine wpS_plain (fun W => ∃ s, StAt w q qc B b vw s hs2 os2 ns W) (fun L W hL hcl hd => by have h := hcl.no hL (j := 10) (by kernel_rfl); have h14 := hcl.no h (j := 14) (by kernel_rfl); exact StD.reads hd h14) (fun _ _ h => h) rfl rfl ?_
            intro KK hKK
            go_big_quiet_op
            go_big_quiet_on
            refine wpS_plain (fun _ => True) (fun _ _ _ _ _ => trivial) (fun _ _ h => h) rfl rfl ?_
            intro KK hKK
            go_big_quiet_op
            go_big_quiet_on
            refine wpS_plain (fun _ => True) (fun _ _ _ _ _ => trivial) (fun _ _ h => h) rfl rfl ?_
            intro KK hKK
            go_big_quiet_op
            go_big_quiet_on
            refine wpS_plain (fun _ => True) (fun _ _ _ _ _ => trivial) (fun _ _ h => h) rfl rfl ?_
            intro KK hKK
            go_big_quiet_op
            go_big_quiet_on
            refine wpS_value (.pointer (some ⟨qc, 0, none⟩)) rfl (fun _ => by go_simp) (fun _ _ h => h) ?_
            (try simp only [Act.put, List.getElem_toArray, List.getElem_cons_zero, List.getElem_cons_succ, List.setIfInBounds_toArray, List.set_cons_zero, List.set_cons_succ])
            refine wpS_plain (fun _ => True) (fun _ _ _ _ _ => trivial) (fun _ _ h => h) rfl rfl ?_
            intro KK hKK
            go_big_quiet_op
            go_big_quiet_on
            refine wpS_plain (fun _ => True) (fun _ _ _ _ _ => trivial) (fun _ _ h => h) rfl rfl ?_
            intro KK hKK
            go_big_quiet_op
            go_big_quiet_on
            refine wpS_plain (fun W => ∃ s, StAt w q qc B b vw s hs2 os2 ns W) (fun L W hL hcl hd => by have h := hcl.no hL (j := 10) (by kernel_rfl); have h14 := hcl.no h (j := 14) (by kernel_rfl); exact StD.reads hd h14) (fun _ _ h => h) rfl rfl ?_
            intro KK hKK
            go_big_quiet_op
            go_big_quiet_on
            refine wpS_call 18 #[(PM.v mp4), .pointer (some ⟨b, 0, none⟩), (hs2 k).v] (rwTake mp4 s (hs2 k)).1.v rfl (fun _ => by go_simp) ?_ ?_
            · intro L W hL hcl hd
              have hd1 := StD.at10 hd hL
              refine (HTK.out _ hd1.mem).mono ?_
              rintro e w'' ⟨rfl, hm, hw⟩
              exact ⟨rfl, hd1.one hm hw⟩
            (try simp only [Act.put, List.getElem_toArray, List.getElem_cons_zero, List.getElem_cons_succ, List.setIfInBounds_toArray, List.set_cons_zero, List.set_cons_succ])
            refine wpS_value (.pointer (some ⟨qc, 0, none⟩)) rfl (fun _ => by go_simp) (fun _ _ h => h) ?_
            (try simp only [Act.put, List.getElem_toArray, List.getElem_cons_zero, List.getElem_cons_succ, List.setIfInBounds_toArray, List.set_cons_zero, List.set_cons_succ])
            refine wpS_plain (fun _ => True) (fun _ _ _ _ _ => trivial) (fun _ _ h => h) rfl rfl ?_
            intro KK hKK
            go_big_quiet_op
            go_big_quiet_on
            refine wpS_plain (fun _ => True) (fun _ _ _ _ _ => trivial) (fun _ _ h => h) rfl rfl ?_
            intro KK hKK
            go_big_quiet_op
            go_big_quiet_on
            refine wpS_store rfl ?_ ?_
            · intro L W hL hcl hd
              have hd1 := StD.at14 hd hL
              obtain ⟨e0, e1, e2, e3, e4, _, _, ef⟩ := hd1.cr.facts hk4
              exact ⟨_, by go_simp, hd1.setH hk4 (rwTake mp4 s (hs2 k)).1⟩
            (try simp only [Act.put, List.getElem_toArray, List.getElem_cons_zero, List.getElem_cons_succ, List.setIfInBounds_toArray, List.set_cons_zero, List.set_cons_succ])
            intro L W hall hd0
            have HK9 := hid (StD.end_ hall hd0)
            clear hd0 hall y0 y1 y2 y3 y4 y5 y6 y7 y8 y9 hne1 hne2 HK HTK
            have HC := hid (HN1.trans (if_neg (by decide)))
            clear HN1
            go_wp2_with fail
            go_end0
            exact HK9.out.ret (by rw [HC.out]) (by rw [HC.out, HTW.out]) (by rw [HC.out]; show updV os k (os k) = os2; rw [← HTO.out, HOS.out hos, ← hos, updV_same]) (by rw [HC.out]; exact updV_same _ _)
          · rw [hos] at e5 HN1
            go_upto_region 6 with fail
            clear e0 e1 e2 e3 e4 e5 e6 ef
            have hne1 : Nonempty (Sat (fun W => ∃ s, StAt w q qc B b vw s hs2 os2 ns W)) := ⟨⟨_, _, HK.out⟩⟩
            have hne2 : Nonempty (Sat (fun _ => True)) := ⟨⟨w, trivial⟩⟩
            have hcells := fun (x : Sat (fun W => ∃ s, StAt w q qc B b vw s hs2 os2 ns W)) => StAt.satCells x hk4
            have y0 := fun x => (hcells x).1
            have y1 := fun x => (hcells x).2.1
            have y2 := fun x => (hcells x).2.2.1
            have y3 := fun x => (hcells x).2.2.2.1
            have y4 := fun x => (hcells x).2.2.2.2.1
            have y5 := fun x => (hcells x).2.2.2.2.2.1
            have y6 := fun x => (hcells x).2.2.2.2.2.2.1
            have y7 := fun x => (hcells x).2.2.2.2.2.2.2.1
            have y8 := fun x => (hcells x).2.2.2.2.2.2.2.2.1
            have y9 := fun x => (hcells x).2.2.2.2.2.2.2.2.2
            clear hcells
            refine wp_region_staged (StD w q qc B b vw s (rwDrop mp4 s (hs2 k)).2 hs2 k (rwDrop mp4 s (hs2 k)).1 os2 ns) (by kernel_rfl) (by kernel_rfl) (fun L hL => StD.start hL HK.out) ?_
            refine wpS_plain (fun _ => True) (fun _ _ _ _ _ => trivial) (fun _ _ h => h) rfl rfl ?_
            intro KK hKK
            go_big_quiet_op
            go_big_quiet_on
            refine wpS_plain (fun _ => True) (fun _ _ _ _ _ => trivial) (fun _ _ h => h) rfl rfl ?_
            intro KK hKK
            go_big_quiet_op
            go_big_quiet_on
            refine wpS_plain (fun W => ∃ s, StAt w q qc B b vw s hs2 os2 ns W) (fun L W hL hcl hd => by have h := hcl.no hL (j := 10) (by kernel_rfl); have h14 := hcl.no h (j := 14) (by kernel_rfl); exact StD.reads hd h14) (fun _ _ h => h) rfl rfl ?_
            intro KK hKK
            go_big_quiet_op
            go_big_quiet_on
            refine wpS_plain (fun _ => True) (fun _ _ _ _ _ => trivial) (fun _ _ h => h) rfl rfl ?_
            intro KK hKK
            go_big_quiet_op
            go_big_quiet_on
            refine wpS_plain (fun _ => True) (fun _ _ _ _ _ => trivial) (fun _ _ h => h) rfl rfl ?_
            intro KK hKK
            go_big_quiet_op
            go_big_quiet_on
            refine wpS_plain (fun _ => True) (fun _ _ _ _ _ => trivial) (fun _ _ h => h) rfl rfl ?_
            intro KK hKK
            go_big_quiet_op
            go_big_quiet_on
            refine wpS_value (.pointer (some ⟨qc, 0, none⟩)) rfl (fun _ => by go_simp) (fun _ _ h => h) ?_
            (try simp only [Act.put, List.getElem_toArray, List.getElem_cons_zero, List.getElem_cons_succ, List.setIfInBounds_toArray, List.set_cons_zero, List.set_cons_succ])
            refine wpS_plain (fun _ => True) (fun _ _ _ _ _ => trivial) (fun _ _ h => h) rfl rfl ?_
            intro KK hKK
            go_big_quiet_op
            go_big_quiet_on
            refine wpS_plain (fun _ => True) (fun _ _ _ _ _ => trivial) (fun _ _ h => h) rfl rfl ?_
            intro KK hKK
            go_big_quiet_op
            go_big_quiet_on
            refine wpS_plain (fun W => ∃ s, StAt w q qc B b vw s hs2 os2 ns W) (fun L W hL hcl hd => by have h := hcl.no hL (j := 10) (by kernel_rfl); have h14 := hcl.no h (j := 14) (by kernel_rfl); exact StD.reads hd h14) (fun _ _ h => h) rfl rfl ?_
            intro KK hKK
            go_big_quiet_op
            go_big_quiet_on
            refine wpS_call 16 #[(PM.v mp4), .pointer (some ⟨b, 0, none⟩), (hs2 k).v] (rwDrop mp4 s (hs2 k)).1.v rfl (fun _ => by go_simp) ?_ ?_
            · intro L W hL hcl hd
              have hd1 := StD.at10 hd hL
              refine (HDR.out _ hd1.mem).mono ?_
              rintro e w'' ⟨rfl, hm, hw⟩
              exact ⟨rfl, hd1.one hm hw⟩
            (try simp only [Act.put, List.getElem_toArray, List.getElem_cons_zero, List.getElem_cons_succ, List.setIfInBounds_toArray, List.set_cons_zero, List.set_cons_succ])
            refine wpS_value (.pointer (some ⟨qc, 0, none⟩)) rfl (fun _ => by go_simp) (fun _ _ h => h) ?_
            (try simp only [Act.put, List.getElem_toArray, List.getElem_cons_zero, List.getElem_cons_succ, List.setIfInBounds_toArray, List.set_cons_zero, List.set_cons_succ])
            refine wpS_plain (fun _ => True) (fun _ _ _ _ _ => trivial) (fun _ _ h => h) rfl rfl ?_
            intro KK hKK
            go_big_quiet_op
            go_big_quiet_on
            refine wpS_plain (fun _ => True) (fun _ _ _ _ _ => trivial) (fun _ _ h => h) rfl rfl ?_
            intro KK hKK
            go_big_quiet_op
            go_big_quiet_on
            refine wpS_store rfl ?_ ?_
            · intro L W hL hcl hd
              have hd1 := StD.at14 hd hL
              obtain ⟨e0, e1, e2, e3, e4, _, _, ef⟩ := hd1.cr.facts hk4
              exact ⟨_, by go_simp, hd1.setH hk4 (rwDrop mp4 s (hs2 k)).1⟩
            (try simp only [Act.put, List.getElem_toArray, List.getElem_cons_zero, List.getElem_cons_succ, List.setIfInBounds_toArray, List.set_cons_zero, List.set_cons_succ])
            intro L W hall hd0
            have HK9 := hid (StD.end_ hall hd0)
            clear hd0 hall y0 y1 y2 y3 y4 y5 y6 y7 y8 y9 hne1 hne2 HK HDR
            have HC := hid (HN1.trans (if_pos rfl))
            clear HN1
            have HG := hid (show upd hs2 k (rwDrop mp4 s (hs2 k)).1 k = (rwDrop mp4 s (hs2 k)).1 from upd_at _ _ _)
            generalize hg : (rwDrop mp4 s (hs2 k)).1 = g at *
            generalize hs9 : (rwDrop mp4 s (hs2 k)).2 = s9 at *
            clear hg hs9
            obtain ⟨e0, e1, e2, e3, e4, e5, e6, ef⟩ := HK9.out.cr.facts hk4
            rw [HG.out] at e2
            by_cases g0 : g.s = 0
            · have HC2 := hid (HC.out.trans (if_pos g0))
              clear HC
              go_upto_region 9 with fail
              refine wp_rename (fun W => StAt w q qc B b vw s9 (upd hs2 k g) (updV os2 k false) ns W) (HK9.out.setO hk4 false) ?_
              clear HK9 e0 e1 e2 e3 e4 e5 e6 ef
              intro W7 hk7
              have HK := hid hk7
              clear hk7
              obtain ⟨e0, e1, e2, e3, e4, e5, e6, ef⟩ := HK.out.cr.facts hk4
              have HNV := hid (fun v => HK.out.setN hk4 v)
              generalize hn : ns k = n0 at *
              go_region
              all_goals
                go_wp2_with fail
                go_end0
                exact ((HNV.out _).later (bdrew (bid _))).ret (by rw [HC2.out]) (by rw [HC2.out, HTW.out]) (by rw [HC2.out]; exact (HTO.out _).symm) (by rw [HC2.out])
            · have HC2 := hid (HC.out.trans (if_neg g0))
              clear HC
              go_wp2_with fail
              go_end0
              exact HK9.out.ret (by rw [HC2.out]) (by rw [HC2.out, HTW.out]) (by rw [HC2.out]; show updV os k true = os2; rw [← HTO.out, ← hos, updV_same]) (by rw [HC2.out]; exact updV_same _ _)

end Go.Proofs.Ytmcmajndcbobpaa
