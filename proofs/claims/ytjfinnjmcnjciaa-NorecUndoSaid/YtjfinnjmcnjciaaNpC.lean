/-
  The program's attempt with values: what comes with the last access of a part; it goes on; what is asked, what is undone.
-/
import Derived.Test.YtjfinnjmcnjciaaNpB
namespace Go.Proofs.Ytjfinnjmcnjciaa
open Go.RowKit
attribute [local go_sem] Later.cell Later.frozen

section
variable {w : World} {ρ : Nat → Nat} {r b : Nat} {x : PT} {l : PL}
set_option maxHeartbeats 1000000 in
theorem next_any (h : PX w ρ r b x l) : Calls Try.prog 137 #[.pointer (some ⟨b, 0, none⟩)] w fun e w' => e = .returned (.int .i64 x.next) ∧ Below w.heap.size w w' := by
  have c : w.cell? ⟨b, 13, none⟩ = some (.int .i64 x.stamp) := h.c 13
  have f := h.f 13
  have HL := hid (show x.next = wrap64 (x.stamp + 2) from rfl)
  rw [HL.out]
  clear h HL
  go_enter Try.func137, Try.ntmps137
  go_wp2
  go_ret
  exact ⟨rfl, bid _⟩

abbrev PassC (w : World) (ρ : Nat → Nat) (r b : Nat) (x : PT) (l : PL) (p : Int) : Prop := Calls Try.prog 114 #[.pointer (some ⟨b, 0, none⟩), .int .i64 p] w fun e w' => e = .returned (.int .i64 (passC x p)) ∧ PX w' ρ r b (passP x p) l ∧ Wrote (Own ρ r) w w'
set_option maxHeartbeats 1000000 in
theorem pass_no (p : Int) (hp : p = 0 ∨ p = 1 ∨ p = 2 ∨ p = 3 ∨ p = 4 ∨ p = 5 ∨ p = 6 ∨ p = 7 ∨ p = 8 ∨ p = 9 ∨ p = 10 ∨ p = 11) (h : PX w ρ r b x l) : PassC w ρ r b x l p := by
  have H := hid h
  clear h
  have h12 : (p == 12) = false := by rcases hp with rfl | rfl | rfl | rfl | rfl | rfl | rfl | rfl | rfl | rfl | rfl | rfl <;> rfl
  have h13 : (p == 13) = false := by rcases hp with rfl | rfl | rfl | rfl | rfl | rfl | rfl | rfl | rfl | rfl | rfl | rfl <;> rfl
  have h14 : (p == 14) = false := by rcases hp with rfl | rfl | rfl | rfl | rfl | rfl | rfl | rfl | rfl | rfl | rfl | rfl <;> rfl
  have h15 : (p == 15) = false := by rcases hp with rfl | rfl | rfl | rfl | rfl | rfl | rfl | rfl | rfl | rfl | rfl | rfl <;> rfl
  have h16 : (p == 16) = false := by rcases hp with rfl | rfl | rfl | rfl | rfl | rfl | rfl | rfl | rfl | rfl | rfl | rfl <;> rfl
  have HP := hid (show passP x p = x from by rcases hp with rfl | rfl | rfl | rfl | rfl | rfl | rfl | rfl | rfl | rfl | rfl | rfl <;> rfl)
  have HC := hid (show passC x p = 0 from if_neg (fun h => by rcases hp with rfl | rfl | rfl | rfl | rfl | rfl | rfl | rfl | rfl | rfl | rfl | rfl <;> exact absurd h.1 (by decide)))
  clear hp
  go_enter Try.func114, Try.ntmps114
  go_wp2
  go_ret
  exact ⟨by rw [HC.out]; rfl, by rw [HP.out]; exact H.out, Wrote.refl _ _⟩
set_option maxHeartbeats 1000000 in
theorem pass_13 (h : PX w ρ r b x l) : PassC w ρ r b x l 13 := by
  have H := hid h
  have c1 : w.cell? ⟨b, 20, none⟩ = some (.int .i64 x.now) := h.c 20
  have c2 : w.cell? ⟨b, 13, none⟩ = some (.int .i64 x.stamp) := h.c 13
  have f1 := h.f 20
  have f2 := h.f 13
  clear h
  go_enter Try.func114, Try.ntmps114
  go_wp2
  go_ret
  have hw := (Wrote.refl (fun k => k = b) w).setCell (p := ⟨b, 13, none⟩) (fun _ => rfl) (.int .i64 x.now)
  exact ⟨rfl, H.out.upd (x' := { x with stamp := x.now }) (l' := l) (blk_setCell H.out.blk 13 _) hw rfl rfl rfl ⟨rfl, rfl⟩, H.out.wr1 hw⟩
set_option maxHeartbeats 1000000 in
theorem pass_15 (h : PX w ρ r b x l) : PassC w ρ r b x l 15 := by
  have H := hid h
  have c2 : w.cell? ⟨b, 11, none⟩ = some (.bool x.sure) := h.c 11
  have f2 := h.f 11
  clear h
  go_enter Try.func114, Try.ntmps114
  go_wp2
  go_ret
  have hw := (Wrote.refl (fun k => k = b) w).setCell (p := ⟨b, 11, none⟩) (fun _ => rfl) (.bool true)
  exact ⟨rfl, H.out.upd (x' := { x with sure := true }) (l' := l) (blk_setCell H.out.blk 11 _) hw rfl rfl rfl ⟨rfl, rfl⟩, H.out.wr1 hw⟩
set_option maxHeartbeats 1000000 in
theorem pass_14 (h : PX w ρ r b x l) : PassC w ρ r b x l 14 := by
  have H := hid h
  have hlt := h.lt
  have c1 : w.cell? ⟨b, 6, none⟩ = some (.int .i64 x.top) := h.c 6
  have f1 := h.f 6
  have HN := hid (fun (y : Later w) => next_any (h.below y.below))
  have HO := hid (fun W => Over_any x.next x.top W)
  have HP := hid (show passP x 14 = x from rfl)
  clear h
  by_cases ho : x.top < x.next
  · have HC := hid (show passC x 14 = 5 from if_pos ⟨rfl, ho⟩)
    have hod : decide (x.next > x.top) = true := decide_eq_true ho
    rw [hod] at HO
    clear ho hod
    generalize x.next = nx at *
    go_enter Try.func114, Try.ntmps114
    go_upto_region 8 with fail
    refine wp_region_later (by kernel_rfl) (by kernel_rfl) ?_
    repeat (go_big_quiet_step (first | (go_at_call 137; with_reducible exact later_call (HN.out _)) | (go_at_call 139; with_reducible exact later_same (HO.out _))))
    refine wpQuiet_nil ?_
    rintro _ ⟨y, rfl⟩
    go_wp2_with fail
    go_ret
    exact ⟨by rw [HC.out]; rfl, by rw [HP.out]; exact H.out.below y.below, Wrote.of_below y.below _⟩
  · have HC := hid (show passC x 14 = 0 from if_neg (fun h => ho h.2))
    have hod : decide (x.next > x.top) = false := decide_eq_false ho
    rw [hod] at HO
    clear ho hod
    generalize x.next = nx at *
    go_enter Try.func114, Try.ntmps114
    go_upto_region 8 with fail
    refine wp_region_later (by kernel_rfl) (by kernel_rfl) ?_
    repeat (go_big_quiet_step (first | (go_at_call 137; with_reducible exact later_call (HN.out _)) | (go_at_call 139; with_reducible exact later_same (HO.out _))))
    refine wpQuiet_nil ?_
    rintro _ ⟨y, rfl⟩
    go_wp2_with fail
    go_ret
    exact ⟨by rw [HC.out]; rfl, by rw [HP.out]; exact H.out.below y.below, Wrote.of_below y.below _⟩
set_option maxHeartbeats 1000000 in
theorem pass_12 (h : PX w ρ r b x l) : PassC w ρ r b x l 12 := by
  have H := hid h
  have c1 : w.cell? ⟨b, 19, none⟩ = some (.int .i64 x.got) := h.c 19
  have c2 : w.cell? ⟨b, 15, none⟩ = some (.int .i64 x.val) := h.c 15
  have f1 := h.f 19
  have f2 := h.f 15
  have hw := (Wrote.refl (fun k => k = b) w).setCell (p := ⟨b, 15, none⟩) (fun _ => rfl) (.int .i64 x.got)
  have H1 := hid (H.out.upd (x' := { x with val := x.got }) (l' := l) (blk_setCell H.out.blk 15 _) hw rfl rfl rfl ⟨rfl, rfl⟩)
  have HW := hid (H.out.wr1 hw)
  clear h hw
  go_enter Try.func114, Try.ntmps114
  go_upto_region 4 with fail
  refine wp_renamed (fun W => PX W ρ r b { x with val := x.got } l ∧ Wrote (Own ρ r) w W) ⟨H1.out, HW.out⟩ ?_
  clear H1 HW c1 c2 f1 f2
  rintro W ⟨hx, hw⟩
  have HX := hid hx
  have HW := hid hw
  have hlt := hx.lt
  have c1 : W.cell? ⟨b, 7, none⟩ = some (.pointer (some ⟨l.rb, 0, none⟩)) := hx.c 7
  have c2 : W.cell? ⟨b, 18, none⟩ = some (.int .i64 x.at_) := hx.c 18
  have c3 : W.cell? ⟨b, 19, none⟩ = some (.int .i64 x.got) := hx.c 19
  have f1 := hx.f 7
  have f2 := hx.f 18
  have f3 := hx.f 19
  have HC := hid (fun (y : Later W) => RdPut_any x.at_ x.got l.rb x.mr x.rs y.v (hx.ins.rd.below y.below))
  clear hx hw
  refine wp_region_later_tail 12 (by kernel_rfl) (by kernel_rfl) ?_
  simp only [List.take_succ_cons, List.take_zero, List.drop_succ_cons, List.drop_zero]
  repeat (go_big_quiet_step (fail))
  refine wpQuiet_nil ?_
  rintro _ ⟨y, rfl⟩
  have HY := hid (HX.out.below y.below)
  have HWY := hid (HW.out.trans (Wrote.of_below y.below _))
  go_wp2_with (go_at_call 138; go_must ((with_reducible refine (HC.out y).mono ?_); rintro e w3 ⟨rfl, hs, hw3⟩; have HS := hid hs; have HW3 := hid hw3; clear hs hw3))
  go_ret
  exact ⟨rfl, HY.out.reads HS.out HW3.out, HWY.out.trans (HY.out.ownR HW3.out)⟩
set_option maxHeartbeats 1000000 in
theorem pass_16 (h : PX w ρ r b x l) : PassC w ρ r b x l 16 := by
  have H := hid h
  have c2 : w.cell? ⟨b, 10, none⟩ = some (.bool x.alive) := h.c 10
  have f2 := h.f 10
  have hw := (Wrote.refl (fun k => k = b) w).setCell (p := ⟨b, 10, none⟩) (fun _ => rfl) (.bool false)
  have H1 := hid (H.out.upd (x' := { x with alive := false }) (l' := l) (blk_setCell H.out.blk 10 _) hw rfl rfl rfl ⟨rfl, rfl⟩)
  have HW := hid (H.out.wr1 hw)
  clear h hw
  go_enter Try.func114, Try.ntmps114
  go_upto_region 14 with fail
  refine wp_renamed (fun W => PX W ρ r b { x with alive := false } l ∧ Wrote (Own ρ r) w W) ⟨H1.out, HW.out⟩ ?_
  clear H1 HW c2 f2
  rintro W ⟨hx, hw⟩
  have HX := hid hx
  have HW := hid hw
  have c1 : W.cell? ⟨b, 8, none⟩ = some (.pointer (some ⟨l.wb, 0, none⟩)) := hx.c 8
  have f1 := hx.f 8
  have HC := hid (wLen_any l.wb x.mw x.ws x.asked W hx.ins.wr)
  clear hx hw
  by_cases hn : x.ws = []
  · have HP := hid (show passP x 16 = { x with alive := false } from show ({ x with alive := false, stamp := if x.ws = [] then x.stamp else x.made } : PT) = _ by rw [if_pos hn])
    have hz : x.ws.length = 0 := by rw [hn]; rfl
    rw [hz] at HC
    clear hn hz
    go_wp2_with (go_at_call 95; go_must ((with_reducible refine HC.out.mono ?_); rintro e w3 ⟨rfl, hb3⟩; have HB3 := hid hb3; clear hb3))
    go_ret
    exact ⟨rfl, by rw [HP.out]; exact HX.out.below HB3.out, HW.out.trans (Wrote.of_below HB3.out _)⟩
  · have HP := hid (show passP x 16 = { x with alive := false, stamp := x.made } from show ({ x with alive := false, stamp := if x.ws = [] then x.stamp else x.made } : PT) = _ by rw [if_neg hn])
    have hz : (0 : Int) < (x.ws.length : Int) := by have := List.length_pos_iff.2 hn; omega
    clear hn
    generalize x.ws.length = n at *
    go_upto_region 15 with (go_at_call 95; go_must ((with_reducible refine HC.out.mono ?_); rintro e w3 ⟨rfl, hb3⟩; have HB3 := hid hb3; clear hb3))
    have hy := HX.out.below HB3.out
    have HY := hid hy
    have HWY := hid (HW.out.trans (Wrote.of_below HB3.out _))
    have d1 : w3.cell? ⟨b, 14, none⟩ = some (.int .i64 x.made) := hy.c 14
    have d2 : w3.cell? ⟨b, 13, none⟩ = some (.int .i64 x.stamp) := hy.c 13
    have g1 := hy.f 14
    have g2 := hy.f 13
    clear hy
    go_wp2
    go_ret
    have hw := (Wrote.refl (fun k => k = b) w3).setCell (p := ⟨b, 13, none⟩) (fun _ => rfl) (.int .i64 x.made)
    exact ⟨rfl, by rw [HP.out]; exact HY.out.upd (x' := { x with alive := false, stamp := x.made }) (l' := l) (blk_setCell HY.out.blk 13 _) hw rfl rfl rfl ⟨rfl, rfl⟩, HWY.out.trans (HY.out.wr1 hw)⟩
theorem pass_any (h : PX w ρ r b x l) {p : Int} (hp : isPart p) : PassC w ρ r b x l p := by
  rcases hp with h1 | h1 | h1 | h1 | h1 | h1 | h1 | h1 | h1 | h1 | h1 | h1 | rfl | rfl | rfl | rfl | rfl
  case inr.inr.inr.inr.inr.inr.inr.inr.inr.inr.inr.inr.inl => exact pass_12 h
  case inr.inr.inr.inr.inr.inr.inr.inr.inr.inr.inr.inr.inr.inl => exact pass_13 h
  case inr.inr.inr.inr.inr.inr.inr.inr.inr.inr.inr.inr.inr.inr.inl => exact pass_14 h
  case inr.inr.inr.inr.inr.inr.inr.inr.inr.inr.inr.inr.inr.inr.inr.inl => exact pass_15 h
  case inr.inr.inr.inr.inr.inr.inr.inr.inr.inr.inr.inr.inr.inr.inr.inr => exact pass_16 h
  all_goals exact pass_no _ (by subst h1; simp) h
end

/-- What a call that turns the attempt alone comes to. -/
def TpRet (w : World) (ρ : Nat → Nat) (r b : Nat) (v : Int × PT) (e : Ending) (w' : World) : Prop := e = .returned (.int .i64 v.1) ∧ ∃ ρ' l', Gr ρ ρ' w ∧ PX w' ρ' r b v.2 l' ∧ Wrote (Own ρ r) w w'
def lenAt (w : World) (b : Nat) : Nat := match w.cell? ⟨b, 16, none⟩ with | some (.slice _ n _) => n | _ => 0
theorem lenAt_eq {w : World} {b : Nat} {a : Option Addr} {n c : Nat} (h : w.cell? ⟨b, 16, none⟩ = some (.slice a n c)) : lenAt w b = n := by unfold lenAt; rw [h]
theorem goP_left {y : PT} {p : Int} {ps : List Int} (h : y.parts = p :: ps) (hl : leftP y p = true) : goP y.parts y = (0, y) := by
  rw [h, goP, ← h]
  exact if_pos hl
theorem goP_bad {y : PT} {p : Int} {ps : List Int} (h : y.parts = p :: ps) (hl : leftP y p = false) (hc : passC { y with parts := ps, dn := 0 } p ≠ 0) : goP y.parts y = abortP (passP { y with parts := ps, dn := 0 } p) (passC { y with parts := ps, dn := 0 } p) := by
  rw [h, goP, ← h]
  exact (if_neg (by show ¬ leftP y p = true; rw [hl]; decide)).trans (if_pos hc)
theorem goP_on {y : PT} {p : Int} {ps : List Int} (h : y.parts = p :: ps) (hl : leftP y p = false) (hc : passC { y with parts := ps, dn := 0 } p = 0) : goP y.parts y = goP ps (passP { y with parts := ps, dn := 0 } p) := by
  rw [h, goP, ← h]
  exact (if_neg (by show ¬ leftP y p = true; rw [hl]; decide)).trans (if_neg (fun hn => hn hc))
theorem goP_nil {y : PT} (h : y.parts = []) : goP y.parts y = (endP y, y) := by
  rw [h, goP, ← h]
theorem passP_parts (x : PT) (p : Int) : (passP x p).parts = x.parts := by
  unfold passP
  split
  · rfl
  · split
    · rfl
    · split
      · rfl
      · split <;> rfl
/-- Where nothing is found by the way. -/
theorem goP_quiet (ps : List Int) : ∀ x : PT, (∀ p ∈ ps, p = 10 ∨ p = 11) → goP ps x = goQ ps x := by
  induction ps with
  | nil => exact fun _ _ => rfl
  | cons p ps ih =>
    intro x h
    have hp := h p List.mem_cons_self
    rw [goP, goQ]
    have hc : passC { x with parts := ps, dn := 0 } p = 0 := if_neg (fun e => by rcases hp with rfl | rfl <;> exact absurd e.1 (by decide))
    refine ite_congr rfl (fun _ => rfl) (fun _ => ?_)
    rw [if_neg (fun hn => hn hc), ih _ (fun q hq => h q (List.mem_cons_of_mem _ hq))]
variable {w : World} {ρ : Nat → Nat} {r b : Nat} {x : PT} {l : PL}
/-- The first part is passed. -/
theorem PX.slide (h : PX w ρ r b x l) {p : Int} {ps : List Int} (hp : x.parts = p :: ps) {g off : Nat} (hpa : l.pa = some ⟨g, off, none⟩) :
    PX ((w.setCell ⟨b, 16, none⟩ (.slice (if l.pc = 1 then some ⟨g, off, none⟩ else some ⟨g, off + 1, none⟩) ps.length (l.pc - 1))).setCell ⟨b, 17, none⟩ (.int .i64 0)) ρ r b { x with parts := ps, dn := 0 } { l with pa := if l.pc = 1 then some ⟨g, off, none⟩ else some ⟨g, off + 1, none⟩, pc := l.pc - 1 } := by
  have hw := ((Wrote.refl (fun k => k = b) w).setCell (p := ⟨b, 16, none⟩) (fun _ => rfl) (.slice (if l.pc = 1 then some ⟨g, off, none⟩ else some ⟨g, off + 1, none⟩) ps.length (l.pc - 1))).setCell (p := ⟨b, 17, none⟩) (fun _ => rfl) (.int .i64 0)
  have hb1 := h.ins.b1
  refine ⟨blk_setCell (blk_setCell h.blk 16 _) 17 _, (h.ins.kept hw fun k h1 h2 e => by subst e; omega).same rfl rfl, ?_⟩
  have hr := h.parts.row
  have h7 := h.parts.b7
  rw [hp, hpa] at hr h7
  have hcap := h.parts.cap
  rw [hp] at hcap
  simp only [List.length_cons] at hcap
  have hfew := h.parts.few
  have hpp : PParts w ρ r { x with parts := ps, dn := 0 } { l with pa := if l.pc = 1 then some ⟨g, off, none⟩ else some ⟨g, off + 1, none⟩, pc := l.pc - 1 } := by
    by_cases h1 : l.pc = 1
    · have hps : ps = [] := List.eq_nil_of_length_eq_zero (by omega)
      subst hps
      refine ⟨⟨rfl, ?_⟩, fun a ha hl => absurd hl (Nat.lt_irrefl 0), Nat.zero_le _, by show l.pc - 1 ≤ maxLen; omega⟩
      rw [if_pos h1]
      exact .inr ⟨_, rfl, fun j hj => absurd hj (Nat.not_lt_zero j)⟩
    · rw [if_neg h1]
      refine ⟨⟨rfl, .inr ⟨_, rfl, fun j hj => ?_⟩⟩, fun a ha hl => ?_, by show ps.length ≤ l.pc - 1; omega, by show l.pc - 1 ≤ maxLen; omega⟩
      · obtain ⟨g', off', e, _, hc⟩ := hr.at (by simp)
        simp only [Option.some.injEq, Addr.mk.injEq, and_true] at e
        obtain ⟨rfl, rfl⟩ := e
        have hj : j < ps.length := hj
        have := hc (j + 1) (by simp; exact hj)
        rw [add_at, Nat.add_assoc, Nat.add_comm 1 j, this]
        simp
      · simp only [Option.some.injEq] at ha
        subst ha
        exact h7 ⟨g, off, none⟩ rfl (by simp)
  exact hpp.kept hw fun k hk e => by subst e; omega
structure GoI (w : World) (ρ : Nat → Nat) (r b : Nat) (x : PT) (l : PL) (W : World) (y : PT) (m : PL) : Prop where
  px : PX W ρ r b y m
  go : goP y.parts y = goP x.parts x
  all : ∀ p ∈ y.parts, isPart p
  sub : ∀ p ∈ y.parts, p ∈ x.parts
  wrote : Wrote (Own ρ r) w W
/-- What is undone, as it is asked by the way. -/
def AbC (r b : Nat) : Prop := ∀ (ρ : Nat → Nat) (W : World) (y : PT) (m : PL) (c : Int), PX W ρ r b y m → Calls Try.prog 68 #[.pointer (some ⟨b, 0, none⟩), .int .i64 c] W (TpRet W ρ r b (abortP y c))
theorem TpRet.from {ρ1 : Nat → Nat} {w1 w' : World} {v : Int × PT} {e : Ending} (h : TpRet w1 ρ1 r b v e w') (hg : Gr ρ ρ1 w) (hw : Wrote (Own ρ r) w w1) : TpRet w ρ r b v e w' := by
  obtain ⟨h1, ρ', l', g, p, k⟩ := h
  exact ⟨h1, ρ', l', hg.trans g hw.size, p, hw.then k fun i hi ho => by unfold Own at ho ⊢; rw [hg i hi] at ho; exact ho⟩

set_option maxHeartbeats 4000000 in
theorem goOn_gen (h : PX w ρ r b x l) (ha : ∀ p ∈ x.parts, isPart p) (hab : (∀ p ∈ x.parts, p = 10 ∨ p = 11) ∨ AbC r b) : Calls Try.prog 74 #[.pointer (some ⟨b, 0, none⟩)] w (TpRet w ρ r b (goOnP x)) := by
  have H0 := hid (show GoI w ρ r b x l w x l from ⟨h, rfl, ha, fun _ h => h, Wrote.refl _ _⟩)
  have HAB := hid hab
  clear h ha hab
  unfold goOnP
  go_enter Try.func74, Try.ntmps74
  go_wp2_with fail
  go_loopw [2] (fun v W => v = .int .i64 0 ∧ ∃ y m, GoI w ρ r b x l W y m) (fun _ W => lenAt W b)
  case atStart => exact ⟨rfl, _, _, H0.out⟩
  case round =>
    clear H0
    obtain ⟨rfl, y, m, hg⟩ := hrel
    have HG := hid hg
    have c17 : wr.cell? ⟨b, 16, none⟩ = some (.slice m.pa y.parts.length m.pc) := hg.px.c 16
    have f17 := hg.px.f 16
    have HM := hid (lenAt_eq c17)
    clear hg
    cases hps : y.parts with
    | nil =>
      rw [hps] at c17
      have HE := hid (HG.out.go.symm.trans (goP_nil hps))
      have c11 : wr.cell? ⟨b, 10, none⟩ = some (.bool y.alive) := HG.out.px.c 10
      have f11 := HG.out.px.f 10
      have c12 : wr.cell? ⟨b, 11, none⟩ = some (.bool y.sure) := HG.out.px.c 11
      have f12 := HG.out.px.f 11
      clear hps
      cases hal : y.alive with
      | true =>
        rw [hal] at c11
        have HL := hid (show endP y = 1 from if_neg (fun h => by rw [hal] at h; cases h.1))
        clear hal
        go_wp2_with fail
        go_ret
        rw [HE.out, HL.out]
        exact ⟨rfl, ρ, m, Gr.refl _ _, HG.out.px, HG.out.wrote⟩
      | false =>
        rw [hal] at c11
        cases hsu : y.sure with
        | true =>
          rw [hsu] at c12
          have HL := hid (show endP y = 1 from if_neg (fun h => by rw [hsu] at h; cases h.2))
          clear hal hsu
          go_wp2_with fail
          go_ret
          rw [HE.out, HL.out]
          exact ⟨rfl, ρ, m, Gr.refl _ _, HG.out.px, HG.out.wrote⟩
        | false =>
          rw [hsu] at c12
          have HL := hid (show endP y = 2 from if_pos ⟨hal, hsu⟩)
          clear hal hsu
          go_wp2_with fail
          go_ret
          rw [HE.out, HL.out]
          exact ⟨rfl, ρ, m, Gr.refl _ _, HG.out.px, HG.out.wrote⟩
    | cons p ps =>
      rw [hps] at c17
      obtain ⟨g, off, hpa, hgl, hc⟩ := HG.out.px.parts.row.at (by rw [hps]; simp)
      have cp := hc 0 (by rw [hps]; simp)
      rw [hps] at cp
      rw [hpa] at c17
      clear hc
      have HP := hid (HG.out.all p (by rw [hps]; exact List.mem_cons_self))
      have HPA := hid hpa
      have HPS := hid hps
      have HLC := hid (left_any HG.out.px HP.out)
      have n1 : (0 : Int) < (((p :: ps).length : Nat) : Int) := by simp only [List.length_cons]; omega
      clear hps hpa
      unfold LeftC at HLC
      have cp : wr.cell? ⟨g, off, none⟩ = some (.int .i64 p) := cp
      cases hl : leftP y p with
      | true =>
        rw [hl] at HLC
        have HE := hid (HG.out.go.symm.trans (goP_left HPS.out hl))
        go_wp2_with (go_at_call 113; go_must ((with_reducible refine HLC.out.mono ?_); rintro e w3 ⟨rfl, hb3⟩; have HB3 := hid hb3; clear hb3))
        go_ret
        rw [HE.out]
        exact ⟨rfl, ρ, m, Gr.refl _ _, HG.out.px.below HB3.out, HG.out.wrote.trans (Wrote.of_below HB3.out _)⟩
      | false =>
        rw [hl] at HLC
        have HLF := hid hl
        clear hl
        go_upto_region 5 with (go_at_call 113; go_must ((with_reducible refine HLC.out.mono ?_); rintro e w3 ⟨rfl, hb3⟩; have HB3 := hid hb3; clear hb3))
        have HX3 := hid (HG.out.px.below HB3.out)
        have HW3 := hid (HG.out.wrote.trans (Wrote.of_below HB3.out _))
        have HSL := hid (HX3.out.slide HPS.out HPA.out)
        have HWS := hid (HW3.out.trans (HX3.out.wr1 (((Wrote.refl (fun k => k = b) w3).setCell (p := ⟨b, 16, none⟩) (fun _ => rfl) (.slice (if m.pc = 1 then some ⟨g, off, none⟩ else some ⟨g, off + 1, none⟩) ps.length (m.pc - 1))).setCell (p := ⟨b, 17, none⟩) (fun _ => rfl) (.int .i64 0))))
        clear HLC HB3 c17 f17 cp
        have c17 : w3.cell? ⟨b, 16, none⟩ = some (.slice (some ⟨g, off, none⟩) (p :: ps).length m.pc) := by have := HX3.out.c 16; rw [← HPA.out, ← HPS.out]; exact this
        have f17 := HX3.out.f 16
        have c18 : w3.cell? ⟨b, 17, none⟩ = some (.int .i64 y.dn) := HX3.out.c 17
        have f18 := HX3.out.f 17
        have n2 : ((1 : Int) ≤ (((p :: ps).length : Nat) : Int)) := by simp only [List.length_cons]; omega
        have n3 : ((((p :: ps).length : Nat) : Int)) ≤ (m.pc : Int) := by have := HX3.out.parts.cap; rw [HPS.out] at this; omega
        go_upto_region 6 with fail
        refine wp_renamed (fun W => PX W ρ r b { y with parts := ps, dn := 0 } { m with pa := if m.pc = 1 then some ⟨g, off, none⟩ else some ⟨g, off + 1, none⟩, pc := m.pc - 1 } ∧ Wrote (Own ρ r) w W) ⟨HSL.out, HWS.out⟩ ?_
        clear HSL HWS HX3 HW3 c17 f17 c18 f18 n2 n3
        rintro W5 ⟨hx5, hw5⟩
        have HW5 := hid hw5
        have HPC := hid (pass_any hx5 HP.out)
        clear hx5 hw5
        unfold PassC at HPC
        by_cases hc : passC { y with parts := ps, dn := 0 } p = 0
        · rw [hc] at HPC
          have HE := hid (HG.out.go.symm.trans (goP_on HPS.out HLF.out hc))
          clear hc
          go_wp2_with (go_at_call 114; go_must ((with_reducible refine HPC.out.mono ?_); rintro e w4 ⟨rfl, hx4, hw4⟩; have HX4 := hid hx4; have HW4 := hid (HW5.out.trans hw4); clear hx4 hw4))
          have hpp := hid (passP_parts { y with parts := ps, dn := 0 } p)
          go_roundw
          case rel =>
            refine ⟨by go_num, passP { y with parts := ps, dn := 0 } p, { m with pa := if m.pc = 1 then some ⟨g, off, none⟩ else some ⟨g, off + 1, none⟩, pc := m.pc - 1 }, HX4.out, ?_, fun q hq => HG.out.all q (by rw [hpp.out] at hq; rw [HPS.out]; exact List.mem_cons_of_mem _ hq), fun q hq => HG.out.sub q (by rw [hpp.out] at hq; rw [HPS.out]; exact List.mem_cons_of_mem _ hq), HW4.out⟩
            rw [hpp.out]
            exact HE.out.symm
          case measure =>
            have e1 := lenAt_eq (HX4.out.c 16)
            have e2 := HM.out
            rw [HPS.out] at e2
            rw [hpp.out] at e1
            rw [e1, e2]
            exact Nat.lt_succ_self _
        · have HE := hid (HG.out.go.symm.trans (goP_bad HPS.out HLF.out hc))
          have HABC := hid (show AbC r b from by
            rcases HAB.out with h | h
            · have h1 := h p (HG.out.sub p (by rw [HPS.out]; exact List.mem_cons_self))
              exact absurd (if_neg (fun e => by rcases h1 with rfl | rfl <;> exact absurd e.1 (by decide))) hc
            · exact h)
          have hcb : (passC { y with parts := ps, dn := 0 } p == 0) = false := by rw [beq_eq_false_iff_ne]; exact hc
          generalize passC { y with parts := ps, dn := 0 } p = cc at *
          go_upto_region 8 with (go_at_call 114; go_must ((with_reducible refine HPC.out.mono ?_); rintro e w4 ⟨rfl, hx4, hw4⟩; have HX4 := hid (HABC.out _ _ _ _ cc hx4); have HW4 := hid (HW5.out.trans hw4); clear hx4 hw4))
          go_wp2_with (go_at_call 68; go_must ((with_reducible refine HX4.out.mono ?_); rintro e w6 ⟨rfl, hr⟩; have HR := hid hr; clear hr))
          all_goals
            go_ret
            rw [HE.out]
            exact TpRet.from (w1 := w4) ⟨rfl, HR.out⟩ (Gr.refl _ _) HW4.out

end Go.Proofs.Ytjfinnjmcnjciaa
