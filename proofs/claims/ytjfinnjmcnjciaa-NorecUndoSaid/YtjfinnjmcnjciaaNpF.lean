/-
  The program's attempt with values and the memory: places of its own; whether something else stands there; each access.
-/
import Derived.Test.YtjfinnjmcnjciaaNpE
import Derived.Test.YtjfinnjmcnjciaaStageN
namespace Go.Proofs.Ytjfinnjmcnjciaa
open Go.RowKit
attribute [local go_sem] Later.cell Later.frozen

/-- An attempt and the memory. -/
structure PXM (w : World) (ρ : Nat → Nat) (r b : Nat) (x : PT) (l : PL) (B mb : Nat) (vw : Value) (s : MS) : Prop where
  px : PX w ρ r b x l
  mem : Mem w B mb vw s
  m0 : ∀ k, MemS mb vw k → ρ k = 0
def OwnM (ρ : Nat → Nat) (r mb : Nat) (vw : Value) : Nat → Prop := fun k => Own ρ r k ∨ MemS mb vw k
variable {w w' : World} {ρ : Nat → Nat} {r b : Nat} {x : PT} {l : PL} {B mb : Nat} {vw : Value} {s s' : MS}
theorem PXM.below (h : PXM w ρ r b x l B mb vw s) (hb : Below w.heap.size w w') : PXM w' ρ r b x l B mb vw s := ⟨h.px.below hb, h.mem.kept (Wrote.of_below hb (fun _ => False)) (fun _ _ h => h), h.m0⟩
theorem PXM.memd (h : PXM w ρ r b x l B mb vw s) (hm : Mem w' B mb vw s') (hw : Wrote (MemS mb vw) w w') : PXM w' ρ r b x l B mb vw s' :=
  ⟨h.px.kept hw fun k ho hk => by have := h.m0 k hk; have := ho.1; omega, hm, h.m0⟩
/-- Its own blocks turned. -/
theorem PXM.turn (h : PXM w ρ r b x l B mb vw s) {ρ' : Nat → Nat} {y : PT} {m : PL} (hp : PX w' ρ' r b y m) (hg : Gr ρ ρ' w) (hw : Wrote (Own ρ r) w w') : PXM w' ρ' r b y m B mb vw s :=
  ⟨hp, h.mem.kept hw fun k hk ho => by have := h.m0 k hk; have := ho.1; omega, fun k hk => by
    have hlt : k < w.heap.size := by
      rcases hk with rfl | hk
      · exact h.mem.lt
      · exact (h.mem.row.lt k hk).2
    rw [hg k hlt]; exact h.m0 k hk⟩
/-- What an access to the memory comes to. -/
def MmRet (w : World) (B mb : Nat) (vw v : Value) (s' : MS) (e : Ending) (w' : World) : Prop := e = .returned v ∧ Mem w' B mb vw s' ∧ Wrote (MemS mb vw) w w'
theorem MmRet.from {w1 : World} {v : Value} {e : Ending} (h : MmRet w1 B mb vw v s' e w') (hb : Below w.heap.size w w1) : MmRet w B mb vw v s' e w' := ⟨h.1, h.2.1, (Wrote.of_below hb _).trans h.2.2⟩

set_option maxHeartbeats 1000000 in
theorem tpseq_any (h : PX w ρ r b x l) : Calls Try.prog 108 #[.pointer (some ⟨b, 0, none⟩)] w fun e w' => e = .returned (.int .i64 x.seqP) ∧ Below w.heap.size w w' := by
  have c0 : w.cell? ⟨b, 0, none⟩ = some (.int .i64 x.m.s) := h.c 0
  have f0 := h.f 0
  have c1 : w.cell? ⟨b, 1, none⟩ = some (.int .i64 x.m.l) := h.c 1
  have f1 := h.f 1
  have c2 : w.cell? ⟨b, 2, none⟩ = some (.int .i64 x.m.t) := h.c 2
  have f2 := h.f 2
  have c3 : w.cell? ⟨b, 3, none⟩ = some (.int .i64 x.m.c) := h.c 3
  have f3 := h.f 3
  have c4 : w.cell? ⟨b, 4, none⟩ = some (.int .i64 x.m.d) := h.c 4
  have f4 := h.f 4
  have HH := hid (show Calls Try.prog 23 #[.agg #[.int .i64 x.m.s, .int .i64 x.m.l, .int .i64 x.m.t, .int .i64 x.m.c, .int .i64 x.m.d]] w (fun e w' => e = .returned (.int .i64 x.seqP) ∧ Below w.heap.size w w') from Seq_any x.m w)
  clear h
  go_enter Try.func108, Try.ntmps108
  go_wp2_with (go_at_call 23; go_must ((with_reducible refine HH.out.mono ?_); rintro e w1 ⟨rfl, hb⟩; have HB := hid hb; clear hb))
  go_ret
  exact ⟨rfl, HB.out⟩
set_option maxHeartbeats 1000000 in
theorem tpphase_any (h : PX w ρ r b x l) : Calls Try.prog 111 #[.pointer (some ⟨b, 0, none⟩)] w fun e w' => e = .returned (.int .i64 x.phaseP) ∧ Below w.heap.size w w' := by
  have hlt := h.lt
  have c0 : w.cell? ⟨b, 0, none⟩ = some (.int .i64 x.m.s) := h.c 0
  have f0 := h.f 0
  have c1 : w.cell? ⟨b, 1, none⟩ = some (.int .i64 x.m.l) := h.c 1
  have f1 := h.f 1
  have c2 : w.cell? ⟨b, 2, none⟩ = some (.int .i64 x.m.t) := h.c 2
  have f2 := h.f 2
  have c3 : w.cell? ⟨b, 3, none⟩ = some (.int .i64 x.m.c) := h.c 3
  have f3 := h.f 3
  have c4 : w.cell? ⟨b, 4, none⟩ = some (.int .i64 x.m.d) := h.c 4
  have f4 := h.f 4
  have c5 : w.cell? ⟨b, 5, none⟩ = some (.int .i64 x.th) := h.c 5
  have f5 := h.f 5
  have HH := hid (fun (y : Later w) => show Calls Try.prog 25 #[.agg #[.int .i64 x.m.s, .int .i64 x.m.l, .int .i64 x.m.t, .int .i64 x.m.c, .int .i64 x.m.d], .int .i64 x.th, .int .i64 0] y.v (fun e w' => e = .returned (.int .i64 x.phaseP) ∧ Below y.v.heap.size y.v w') from Thread_any x.m x.th 0 y.v)
  clear h
  go_enter Try.func111, Try.ntmps111
  go_wp2_with fail
  refine wp_region_later (by kernel_rfl) (by kernel_rfl) ?_
  repeat (go_big_quiet_step ((go_at_call 25; with_reducible exact later_call (HH.out _))))
  refine wpQuiet_nil ?_
  rintro _ ⟨y, rfl⟩
  go_wp2_with fail
  go_ret
  exact ⟨rfl, y.below⟩
set_option maxHeartbeats 1000000 in
theorem unlike_any (d : Wd) (c : Int) (h : Mem w B mb vw s) : Calls Try.prog 109 #[.pointer (some ⟨mb, 0, none⟩), .agg #[.int .i64 d.1, .int .i64 d.2], .int .i64 c] w (MmRet w B mb vw (.int .i64 (unlikeC s d c)) (s.loaded d.1)) := by
  obtain ⟨p, v⟩ := d
  show Calls _ _ #[_, .agg #[.int .i64 p, .int .i64 v], _] _ _
  have hmb := h.lt
  have HL := hid (fun W (hm : Mem W B mb vw s) => Load_at p W B mb vw s hm)
  have HA := hid ((h.kept (Wrote.of_below (bnew (bid w) (.cells #[.int .i64 p, .int .i64 v] 51)) (fun _ => False)) (fun _ _ h => h)))
  have HD := hid (bnew (bid w) (.cells #[.int .i64 p, .int .i64 v] 51))
  have HM0 := hid (show ∀ k, MemS mb vw k → k < w.heap.size from fun k hk => by
    rcases hk with rfl | hk
    · exact h.lt
    · exact (h.row.lt k hk).2)
  have HE := hid (show unlikeC s (p, v) c = (if s.vAt p ≠ v then c else 0) from rfl)
  rw [HE.out]
  clear h HE
  generalize hz0 : s.vAt p = z at *
  by_cases hz : z = v
  · have hzb : (z != v) = false := by simpa using hz
    have HE := hid (show (if z ≠ v then c else 0) = 0 from if_neg (fun h => h hz))
    rw [HE.out]
    clear hz0
    go_enter Try.func109, Try.ntmps109
    go_wp2_with (go_at_call 107; go_must ((with_reducible refine (HL.out _ HA.out).mono ?_); rintro e w2 ⟨rfl, hm, hw⟩; have hbk := (hw.block _ (by rw [size_alloc1]; omega) (fun hk => Nat.lt_irrefl _ (HM0.out _ hk))).trans (heap_alloc_new w (.cells #[.int .i64 p, .int .i64 v] 51)); have q1 := cell_of_blk hbk 1; have q2 := frozen_of_blk hbk 1; simp only [List.getElem?_toArray, List.getElem?_cons_zero, List.getElem?_cons_succ] at q1; have HM := hid hm; have HW := hid hw; clear hm hw hbk))
    go_ret
    exact ⟨rfl, HM.out, (Wrote.of_below HD.out _).trans HW.out⟩
  · have hzb : (z != v) = true := by simpa using hz
    have HE := hid (show (if z ≠ v then c else 0) = c from if_pos hz)
    rw [HE.out]
    clear hz0
    go_enter Try.func109, Try.ntmps109
    go_wp2_with (go_at_call 107; go_must ((with_reducible refine (HL.out _ HA.out).mono ?_); rintro e w2 ⟨rfl, hm, hw⟩; have hbk := (hw.block _ (by rw [size_alloc1]; omega) (fun hk => Nat.lt_irrefl _ (HM0.out _ hk))).trans (heap_alloc_new w (.cells #[.int .i64 p, .int .i64 v] 51)); have q1 := cell_of_blk hbk 1; have q2 := frozen_of_blk hbk 1; simp only [List.getElem?_toArray, List.getElem?_cons_zero, List.getElem?_cons_succ] at q1; have HM := hid hm; have HW := hid hw; clear hm hw hbk))
    go_ret
    exact ⟨rfl, HM.out, (Wrote.of_below HD.out _).trans HW.out⟩

/-- What an access comes to. -/
def AcRet (w : World) (ρ : Nat → Nat) (r b B mb : Nat) (vw : Value) (v : Int × PT × MS) (e : Ending) (w' : World) : Prop :=
  e = .returned (.int .i64 v.1) ∧ ∃ ρ' l', Gr ρ ρ' w ∧ PXM w' ρ' r b v.2.1 l' B mb vw v.2.2 ∧ Wrote (OwnM ρ r mb vw) w w'
theorem PXM.upd (h : PXM w ρ r b x l B mb vw s) {x' : PT} {l' : PL} (hb : w'.heap[b]? = some (.cells (ptC x' l') 99 (0, 0))) (hw : Wrote (fun k => k = b) w w') (hx : x'.core = x.core) (hl : l'.core = l.core) (hp : x'.parts = x.parts) (hpl : l'.pa = l.pa ∧ l'.pc = l.pc) : PXM w' ρ r b x' l' B mb vw s :=
  h.turn (h.px.upd hb hw hx hl hp hpl) (Gr.refl _ _) (h.px.wr1 hw)
theorem OwnM.mem {w : World} {ρ : Nat → Nat} {r mb : Nat} {vw : Value} {w' : World} (hw : Wrote (MemS mb vw) w w') : Wrote (OwnM ρ r mb vw) w w' := hw.mono fun _ _ h => .inr h
theorem OwnM.own {w : World} {ρ : Nat → Nat} {r mb : Nat} {vw : Value} {w' : World} (hw : Wrote (Own ρ r) w w') : Wrote (OwnM ρ r mb vw) w w' := hw.mono fun _ _ h => .inl h
theorem AcRet.from {ρ1 : Nat → Nat} {w1 : World} {v : Int × PT × MS} {e : Ending} (h : AcRet w1 ρ1 r b B mb vw v e w') (hg : Gr ρ ρ1 w) (hw : Wrote (OwnM ρ r mb vw) w w1) : AcRet w ρ r b B mb vw v e w' := by
  obtain ⟨h1, ρ', l', g, p, k⟩ := h
  exact ⟨h1, ρ', l', hg.trans g hw.size, p, hw.then k fun i hi ho => by unfold OwnM Own at ho ⊢; rw [hg i hi] at ho; exact ho⟩

abbrev AccC (w : World) (ρ : Nat → Nat) (r b : Nat) (x : PT) (B mb : Nat) (vw : Value) (s : MS) (p : Int) (i : Nat) : Prop :=
  Calls Try.prog 71 #[.pointer (some ⟨b, 0, none⟩), .pointer (some ⟨mb, 0, none⟩), .int .i64 p, .int .i64 i] w (AcRet w ρ r b B mb vw (accP s x p i))
/-- One of its cells turned behind an access to the memory. -/
theorem PXM.put1 (h : PXM w ρ r b x l B mb vw s) {W : World} (hw : Wrote (OwnM ρ r mb vw) W w) (i : Nat) (u : Value) {x' : PT} (hc : (ptC x l).setIfInBounds i u = ptC x' l) (hx : x'.core = x.core) (hp : x'.parts = x.parts) : PXM (w.setCell ⟨b, i, none⟩ u) ρ r b x' l B mb vw s ∧ Wrote (OwnM ρ r mb vw) W (w.setCell ⟨b, i, none⟩ u) := by
  have hw7 := (Wrote.refl (fun k => k = b) w).setCell (p := ⟨b, i, none⟩) (fun _ => rfl) u
  exact ⟨h.upd (x' := x') (l' := l) ((blk_setCell h.px.blk i u).trans (by rw [hc])) hw7 hx rfl hp ⟨rfl, rfl⟩, hw.trans (OwnM.own (h.px.wr1 hw7))⟩
theorem mload (p : Int) (h : PXM w ρ r b x l B mb vw s) : Calls Try.prog 107 #[.pointer (some ⟨mb, 0, none⟩), .int .i64 p] w (MmRet w B mb vw (.tuple #[.int .i64 (s.vAt p), .int .i64 (s.eAt p)]) (s.loaded p)) := Load_at p w B mb vw s h.mem
theorem mstore (p v : Int) (h : PXM w ρ r b x l B mb vw s) : Calls Try.prog 34 #[.pointer (some ⟨mb, 0, none⟩), .int .i64 p, .int .i64 v] w (MmRet w B mb vw (.int .i64 (s.eAt p)) (s.stored p v)) := Store_at p v w B mb vw s h.mem

set_option maxHeartbeats 4000000 in
set_option maxRecDepth 100000 in
theorem acc_0 (i : Nat) (h : PXM w ρ r b x l B mb vw s) : AccC w ρ r b x B mb vw s 0 i := by
  have H := hid h
  have HS := hid (tpseq_any h.px)
  clear h
  go_enter Try.func71, Try.ntmps71
  go_wp2_with (first | (go_at_call 108; go_must ((with_reducible refine HS.out.mono ?_); rintro e w1 ⟨rfl, hb⟩; have HX := hid (H.out.below hb); have HW := hid (Wrote.of_below hb (OwnM ρ r mb vw)); clear hb)) | (go_at_call 107; go_must ((with_reducible refine (mload _ HX.out).mono ?_); rintro e w2 ⟨rfl, hm, hw⟩; have HX2 := hid (HX.out.memd hm hw); have HW2 := hid (HW.out.trans (OwnM.mem hw)); clear hm hw; have c20 : w2.cell? ⟨b, 20, none⟩ = some (.int .i64 x.now) := HX2.out.px.c 20; have fc20 := HX2.out.px.f 20)))
  go_ret
  have hp := HX2.out.put1 (x' := { x with now := s.vAt x.seqP }) HW2.out 20 (.int .i64 (s.vAt x.seqP)) rfl rfl rfl
  exact ⟨rfl, ρ, l, Gr.refl _ _, hp.1, hp.2⟩
set_option maxHeartbeats 4000000 in
set_option maxRecDepth 100000 in
theorem acc_4 (i : Nat) (h : PXM w ρ r b x l B mb vw s) : AccC w ρ r b x B mb vw s 4 i := by
  have HX := hid h
  have HW := hid (Wrote.refl (OwnM ρ r mb vw) w)
  have c18 : w.cell? ⟨b, 18, none⟩ = some (.int .i64 x.at_) := h.px.c 18
  have f18 := h.px.f 18
  clear h
  go_enter Try.func71, Try.ntmps71
  go_wp2_with (go_at_call 107; go_must ((with_reducible refine (mload _ HX.out).mono ?_); rintro e w2 ⟨rfl, hm, hw⟩; have HX2 := hid (HX.out.memd hm hw); have HW2 := hid (HW.out.trans (OwnM.mem hw)); clear hm hw; have c19 : w2.cell? ⟨b, 19, none⟩ = some (.int .i64 x.got) := HX2.out.px.c 19; have fc19 := HX2.out.px.f 19))
  go_ret
  have hp := HX2.out.put1 (x' := { x with got := s.vAt x.at_ }) HW2.out 19 (.int .i64 (s.vAt x.at_)) rfl rfl rfl
  exact ⟨rfl, ρ, l, Gr.refl _ _, hp.1, hp.2⟩
set_option maxHeartbeats 4000000 in
set_option maxRecDepth 100000 in
theorem acc_6 (i : Nat) (h : PXM w ρ r b x l B mb vw s) : AccC w ρ r b x B mb vw s 6 i := by
  have H := hid h
  have HP := hid (tpphase_any h.px)
  clear h
  go_enter Try.func71, Try.ntmps71
  go_wp2_with (first | (go_at_call 111; go_must ((with_reducible refine HP.out.mono ?_); rintro e w1 ⟨rfl, hb⟩; have HX := hid (H.out.below hb); have HW := hid (Wrote.of_below hb (OwnM ρ r mb vw)); clear hb)) | (go_at_call 34; go_must ((with_reducible refine (mstore _ _ HX.out).mono ?_); rintro e w2 ⟨rfl, hm, hw⟩; have HX2 := hid (HX.out.memd hm hw); have HW2 := hid (HW.out.trans (OwnM.mem hw)); clear hm hw; have c22 : w2.cell? ⟨b, 22, none⟩ = some (.bool x.phased) := HX2.out.px.c 22; have fc22 := HX2.out.px.f 22)))
  go_ret
  have hp := HX2.out.put1 (x' := { x with phased := true }) HW2.out 22 (.bool true) rfl rfl rfl
  exact ⟨rfl, ρ, l, Gr.refl _ _, hp.1, hp.2⟩
set_option maxHeartbeats 4000000 in
set_option maxRecDepth 100000 in
theorem acc_11 (i : Nat) (h : PXM w ρ r b x l B mb vw s) : AccC w ρ r b x B mb vw s 11 i := by
  have H := hid h
  have HP := hid (tpphase_any h.px)
  clear h
  go_enter Try.func71, Try.ntmps71
  go_wp2_with (first | (go_at_call 111; go_must ((with_reducible refine HP.out.mono ?_); rintro e w1 ⟨rfl, hb⟩; have HX := hid (H.out.below hb); have HW := hid (Wrote.of_below hb (OwnM ρ r mb vw)); clear hb)) | (go_at_call 34; go_must ((with_reducible refine (mstore _ _ HX.out).mono ?_); rintro e w2 ⟨rfl, hm, hw⟩; have HX2 := hid (HX.out.memd hm hw); have HW2 := hid (HW.out.trans (OwnM.mem hw)); clear hm hw; have c22 : w2.cell? ⟨b, 22, none⟩ = some (.bool x.phased) := HX2.out.px.c 22; have fc22 := HX2.out.px.f 22)))
  go_ret
  have hp := HX2.out.put1 (x' := { x with phased := false }) HW2.out 22 (.bool false) rfl rfl rfl
  exact ⟨rfl, ρ, l, Gr.refl _ _, hp.1, hp.2⟩
set_option maxHeartbeats 4000000 in
set_option maxRecDepth 100000 in
theorem acc_1 (i : Nat) (h : PXM w ρ r b x l B mb vw s) (hi : i < x.rs.length) : AccC w ρ r b x B mb vw s 1 i := by
  have H := hid h
  have c7 : w.cell? ⟨b, 7, none⟩ = some (.pointer (some ⟨l.rb, 0, none⟩)) := h.px.c 7
  have f7 := h.px.f 7
  obtain ⟨⟨k, k2⟩, hp⟩ := word_at (ws := x.rs) (k := i) hi
  have HA := hid (show Calls Try.prog 110 #[.pointer (some ⟨l.rb, 0, none⟩), .int .i64 i] w (fun e w' => e = .returned (.agg #[.int .i64 k, .int .i64 k2]) ∧ Below w.heap.size w w') from RdAt_any i (k, k2) l.rb x.mr x.rs w h.px.ins.rd hp)
  have HU := hid (fun W (hm : Mem W B mb vw s) => unlike_any (k, k2) 2 hm)
  have HE := hid (show accP s x 1 i = (unlikeC s (k, k2) 2, x, s.loaded k) from by
    have : x.rs.getD i (0, 0) = (k, k2) := by rw [List.getD_eq_getElem?_getD, hp]; rfl
    show (unlikeC s (x.rs.getD i (0, 0)) 2, x, s.loaded (x.rs.getD i (0, 0)).1) = _
    rw [this])
  unfold AccC
  rw [HE.out]
  clear h hp HE hi
  go_enter Try.func71, Try.ntmps71
  go_wp2_with (first | (go_at_call 110; go_must ((with_reducible refine HA.out.mono ?_); rintro e w1 ⟨rfl, hb⟩; have HX := hid (H.out.below hb); have HW := hid (Wrote.of_below hb (OwnM ρ r mb vw)); clear hb)) | (go_at_call 109; go_must ((with_reducible refine (HU.out _ HX.out.mem).mono ?_); rintro e w2 ⟨rfl, hm, hw⟩; have HX2 := hid (HX.out.memd hm hw); have HW2 := hid (HW.out.trans (OwnM.mem hw)); clear hm hw)))
  go_ret
  exact ⟨rfl, ρ, l, Gr.refl _ _, HX2.out, HW2.out⟩
set_option maxHeartbeats 4000000 in
set_option maxRecDepth 100000 in
theorem acc_2 (i : Nat) (h : PXM w ρ r b x l B mb vw s) : AccC w ρ r b x B mb vw s 2 i := by
  have H := hid h
  have hlt := h.px.lt
  have c : w.cell? ⟨b, 20, none⟩ = some (.int .i64 x.now) := h.px.c 20
  have f := h.px.f 20
  have HS := hid (fun (y : Later w) => tpseq_any (h.px.below y.below))
  have HU := hid (fun (y : Later w) => unlike_any (x.seqP, x.now) (-2) (h.below y.below).mem)
  have HE := hid (show accP s x 2 i = (unlikeC s (x.seqP, x.now) (-2), x, s.loaded x.seqP) from rfl)
  unfold AccC
  rw [HE.out]
  clear h HE
  generalize unlikeC s (x.seqP, x.now) (-2) = z at *
  go_enter Try.func71, Try.ntmps71
  go_wp2_with fail
  refine wp_region_later_tail 8 (by kernel_rfl) (by kernel_rfl) ?_
  simp only [List.take_succ_cons, List.take_zero, List.drop_succ_cons, List.drop_zero]
  repeat (go_big_quiet_step ((go_at_call 108; with_reducible exact later_call (HS.out _))))
  refine wpQuiet_nil ?_
  rintro _ ⟨y, rfl⟩
  have HX := hid (H.out.below y.below)
  have HW := hid (Wrote.of_below y.below (OwnM ρ r mb vw))
  go_wp2_with (go_at_call 109; go_must ((with_reducible refine (HU.out y).mono ?_); rintro e w2 ⟨rfl, hm, hw⟩; have HX2 := hid (HX.out.memd hm hw); have HW2 := hid (HW.out.trans (OwnM.mem hw)); clear hm hw))
  go_ret
  exact ⟨rfl, ρ, l, Gr.refl _ _, HX2.out, HW2.out⟩
set_option maxHeartbeats 4000000 in
set_option maxRecDepth 100000 in
theorem acc_5 (i : Nat) (h : PXM w ρ r b x l B mb vw s) : AccC w ρ r b x B mb vw s 5 i := by
  have H := hid h
  have hlt := h.px.lt
  have c : w.cell? ⟨b, 13, none⟩ = some (.int .i64 x.stamp) := h.px.c 13
  have f := h.px.f 13
  have HS := hid (fun (y : Later w) => tpseq_any (h.px.below y.below))
  have HU := hid (fun (y : Later w) => unlike_any (x.seqP, x.stamp) (-1) (h.below y.below).mem)
  have HE := hid (show accP s x 5 i = (unlikeC s (x.seqP, x.stamp) (-1), x, s.loaded x.seqP) from rfl)
  unfold AccC
  rw [HE.out]
  clear h HE
  generalize unlikeC s (x.seqP, x.stamp) (-1) = z at *
  go_enter Try.func71, Try.ntmps71
  go_wp2_with fail
  refine wp_region_later_tail 8 (by kernel_rfl) (by kernel_rfl) ?_
  simp only [List.take_succ_cons, List.take_zero, List.drop_succ_cons, List.drop_zero]
  repeat (go_big_quiet_step ((go_at_call 108; with_reducible exact later_call (HS.out _))))
  refine wpQuiet_nil ?_
  rintro _ ⟨y, rfl⟩
  have HX := hid (H.out.below y.below)
  have HW := hid (Wrote.of_below y.below (OwnM ρ r mb vw))
  go_wp2_with (go_at_call 109; go_must ((with_reducible refine (HU.out y).mono ?_); rintro e w2 ⟨rfl, hm, hw⟩; have HX2 := hid (HX.out.memd hm hw); have HW2 := hid (HW.out.trans (OwnM.mem hw)); clear hm hw))
  go_ret
  exact ⟨rfl, ρ, l, Gr.refl _ _, HX2.out, HW2.out⟩
set_option maxHeartbeats 4000000 in
set_option maxRecDepth 100000 in
theorem acc_3 (i : Nat) (h : PXM w ρ r b x l B mb vw s) (hi : i < x.wt.length) : AccC w ρ r b x B mb vw s 3 i := by
  have HX := hid h
  have HW := hid (Wrote.refl (OwnM ρ r mb vw) w)
  have hlt := h.px.lt
  have c9 : w.cell? ⟨b, 9, none⟩ = some l.vt := h.px.c 9
  have f9 := h.px.f 9
  obtain ⟨a, n, hv, hrow⟩ := h.px.ins.wt.form
  obtain ⟨g, off, rfl, hg, hcs⟩ := hrow.at (by omega)
  obtain ⟨⟨p1, p2⟩, hp⟩ := word_at (ws := x.wt) (k := i) hi
  obtain ⟨q0, q1⟩ := hcs i _ hp
  rw [hv] at c9
  have HU := hid (fun W (hm : Mem W B mb vw s) => unlike_any (p1, p2) 3 hm)
  have HE := hid (show accP s x 3 i = (unlikeC s (p1, p2) 3, x, s.loaded p1) from by
    have : x.wt.getD i (0, 0) = (p1, p2) := by rw [List.getD_eq_getElem?_getD, hp]; rfl
    show (unlikeC s (x.wt.getD i (0, 0)) 3, x, s.loaded (x.wt.getD i (0, 0)).1) = _
    rw [this])
  have n1 : (0 : Int) ≤ (i : Int) := by omega
  have n2 : (i : Int) < (x.wt.length : Int) := by omega
  unfold AccC
  rw [HE.out]
  clear h hcs hrow hv hp HE hi
  generalize unlikeC s (p1, p2) 3 = z at *
  generalize x.wt.length = m at c9 n2
  go_enter Try.func71, Try.ntmps71
  go_wp2_with (go_at_call 109; go_must ((with_reducible refine (HU.out _ HX.out.mem).mono ?_); rintro e w2 ⟨rfl, hm, hw⟩; have HX2 := hid (HX.out.memd hm hw); have HW2 := hid (HW.out.trans (OwnM.mem hw)); clear hm hw))
  go_ret
  exact ⟨rfl, ρ, l, Gr.refl _ _, HX2.out, HW2.out⟩
set_option maxHeartbeats 4000000 in
set_option maxRecDepth 100000 in
theorem acc_8 (i : Nat) (h : PXM w ρ r b x l B mb vw s) (hi : i < x.ws.length) : AccC w ρ r b x B mb vw s 8 i := by
  have H := hid h
  have c8 : w.cell? ⟨b, 8, none⟩ = some (.pointer (some ⟨l.wb, 0, none⟩)) := h.px.c 8
  have f8 := h.px.f 8
  have HL := hid (List_any l.wb x.mw x.ws x.asked w h.px.ins.wr)
  obtain ⟨⟨p1, p2⟩, hp⟩ := word_at (ws := x.ws) (k := i) hi
  have HP := hid hp
  have HE := hid (show accP s x 8 i = (0, x, s.stored p1 p2) from by
    have : x.ws.getD i (0, 0) = (p1, p2) := by rw [List.getD_eq_getElem?_getD, hp]; rfl
    show (0, x, s.stored (x.ws.getD i (0, 0)).1 (x.ws.getD i (0, 0)).2) = _
    rw [this])
  have n1 : (0 : Int) ≤ (i : Int) := by omega
  have n2 : (i : Int) < (x.ws.length : Int) := by omega
  have HI := hid hi
  unfold AccC
  rw [HE.out]
  clear h hp HE hi
  go_enter Try.func71, Try.ntmps71
  go_wp2_with (first | (go_at_call 65; go_must ((with_reducible refine HL.out.mono ?_); rintro e w1 ⟨v1, rfl, hl1, hb1⟩; obtain ⟨a1, n1, rfl, hrow1⟩ := hl1.form; obtain ⟨g, off, rfl, hg, hcs⟩ := hrow1.at (Nat.lt_of_le_of_lt (Nat.zero_le _) HI.out); obtain ⟨q0, q1⟩ := hcs i _ HP.out; have HX := hid ((H.out.below hb1).below (bnew (bid _) (.cells #[.int .i64 p1, .int .i64 p2] 51))); have HW := hid (Wrote.of_below (bnew hb1 (.cells #[.int .i64 p1, .int .i64 p2] 51)) (OwnM ρ r mb vw)); clear hl1 hb1 hrow1 hcs)) | (go_at_call 34; go_must ((with_reducible refine (mstore _ _ HX.out).mono ?_); rintro e w2 ⟨rfl, hm, hw⟩; have HX2 := hid (HX.out.memd hm hw); have HW2 := hid (HW.out.trans (OwnM.mem hw)); clear hm hw)))
  go_ret
  exact ⟨rfl, ρ, l, Gr.refl _ _, HX2.out, HW2.out⟩

set_option maxHeartbeats 4000000 in
set_option maxRecDepth 100000 in
theorem acc_9 (i : Nat) (h : PXM w ρ r b x l B mb vw s) : AccC w ρ r b x B mb vw s 9 i := by
  have H := hid h
  have hlt := h.px.lt
  have c : w.cell? ⟨b, 14, none⟩ = some (.int .i64 x.made) := h.px.c 14
  have f := h.px.f 14
  have HS := hid (fun (y : Later w) => tpseq_any (h.px.below y.below))
  clear h
  go_enter Try.func71, Try.ntmps71
  go_wp2_with fail
  refine wp_region_later_tail 7 (by kernel_rfl) (by kernel_rfl) ?_
  simp only [List.take_succ_cons, List.take_zero, List.drop_succ_cons, List.drop_zero]
  repeat (go_big_quiet_step ((go_at_call 108; with_reducible exact later_call (HS.out _))))
  refine wpQuiet_nil ?_
  rintro _ ⟨y, rfl⟩
  have HX := hid (H.out.below y.below)
  have HW := hid (Wrote.of_below y.below (OwnM ρ r mb vw))
  go_wp2_with (go_at_call 34; go_must ((with_reducible refine (mstore _ _ HX.out).mono ?_); rintro e w2 ⟨rfl, hm, hw⟩; have HX2 := hid (HX.out.memd hm hw); have HW2 := hid (HW.out.trans (OwnM.mem hw)); clear hm hw; have c21 : w2.cell? ⟨b, 21, none⟩ = some (.bool x.claimed) := HX2.out.px.c 21; have fc21 := HX2.out.px.f 21))
  go_ret
  have hp := HX2.out.put1 (x' := { x with claimed := false }) HW2.out 21 (.bool false) rfl rfl rfl
  exact ⟨rfl, ρ, l, Gr.refl _ _, hp.1, hp.2⟩
set_option maxHeartbeats 4000000 in
set_option maxRecDepth 100000 in
theorem acc_10 (i : Nat) (h : PXM w ρ r b x l B mb vw s) : AccC w ρ r b x B mb vw s 10 i := by
  have H := hid h
  have hlt := h.px.lt
  have c : w.cell? ⟨b, 13, none⟩ = some (.int .i64 x.stamp) := h.px.c 13
  have f := h.px.f 13
  have HS := hid (fun (y : Later w) => tpseq_any (h.px.below y.below))
  clear h
  go_enter Try.func71, Try.ntmps71
  go_wp2_with fail
  refine wp_region_later_tail 7 (by kernel_rfl) (by kernel_rfl) ?_
  simp only [List.take_succ_cons, List.take_zero, List.drop_succ_cons, List.drop_zero]
  repeat (go_big_quiet_step ((go_at_call 108; with_reducible exact later_call (HS.out _))))
  refine wpQuiet_nil ?_
  rintro _ ⟨y, rfl⟩
  have HX := hid (H.out.below y.below)
  have HW := hid (Wrote.of_below y.below (OwnM ρ r mb vw))
  go_wp2_with (go_at_call 34; go_must ((with_reducible refine (mstore _ _ HX.out).mono ?_); rintro e w2 ⟨rfl, hm, hw⟩; have HX2 := hid (HX.out.memd hm hw); have HW2 := hid (HW.out.trans (OwnM.mem hw)); clear hm hw; have c21 : w2.cell? ⟨b, 21, none⟩ = some (.bool x.claimed) := HX2.out.px.c 21; have fc21 := HX2.out.px.f 21))
  go_ret
  have hp := HX2.out.put1 (x' := { x with claimed := false }) HW2.out 21 (.bool false) rfl rfl rfl
  exact ⟨rfl, ρ, l, Gr.refl _ _, hp.1, hp.2⟩

end Go.Proofs.Ytjfinnjmcnjciaa
