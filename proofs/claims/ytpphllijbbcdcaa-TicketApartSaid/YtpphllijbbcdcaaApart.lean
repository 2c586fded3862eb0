/-
  TicketApart: two locks have nothing to do with each other.
-/
import Derived.Test.YtpphllijbbcdcaaTktP
import Derived.Test.YtpphllijbbcdcaaStage
namespace Go.Proofs.Ytpphllijbbcdcaa
open Go.RowKit
attribute [local go_sem] Later.cell Later.frozen

/-- Both memories hold the same words of lock 0; the hands at it are alike. -/
structure API (s t : MS) (ha hb hc : HD) : Prop where
  ls : s.zs.length = 48
  lt : t.zs.length = 48
  same : hc = ha
  at_ : ha.t = 1 ∧ ha.l = 0
  bt : hb.t = 2 ∧ hb.l = 1
  e5 : t.zs.getD 5 0 = s.zs.getD 5 0
  e6 : t.zs.getD 6 0 = s.zs.getD 6 0

theorem lock0 (s : MS) (hl : s.zs.length = 48) : mp4.at_ 3 0 1 = ((5 : Nat) : Int) ∧ mp4.at_ 3 0 2 = ((6 : Nat) : Int) ∧ s.vAt ((5 : Nat) : Int) = s.zs.getD 5 0 ∧ s.vAt ((6 : Nat) : Int) = s.zs.getD 6 0 :=
  ⟨by decide, by decide, vAt_nat (by omega), vAt_nat (by omega)⟩
theorem lock1 : mp4.at_ 3 1 1 = ((11 : Nat) : Int) ∧ mp4.at_ 3 1 2 = ((12 : Nat) : Int) := ⟨by decide, by decide⟩

theorem API.may {s t : MS} {ha hb hc : HD} (h : API s t ha hb hc) : mayH mp4 ha := by
  obtain ⟨a, b⟩ := h.at_
  exact ⟨mp4_ok, by omega, by rw [a]; decide, by omega, by rw [b]; decide⟩
theorem API.mayb {s t : MS} {ha hb hc : HD} (h : API s t ha hb hc) : mayH mp4 hb := by
  obtain ⟨a, b⟩ := h.bt
  exact ⟨mp4_ok, by omega, by rw [a]; decide, by omega, by rw [b]; decide⟩

theorem API.takeA {s t : MS} {ha hb hc : HD} (h : API s t ha hb hc) : API (tkTake mp4 s ha).2 (tkTake mp4 t hc).2 (tkTake mp4 s ha).1 hb (tkTake mp4 t hc).1 := by
  have hm := h.may
  obtain ⟨ls, lt, same, ⟨a1, a2⟩, bt, e5, e6⟩ := h
  subst same
  obtain ⟨p5, p6, v5, v6⟩ := lock0 s ls
  obtain ⟨_, _, u5, u6⟩ := lock0 t lt
  unfold tkTake
  rw [if_pos hm, if_pos hm, a2, p5, p6, v5, v6, u5, u6, e5, e6]
  by_cases c0 : hc.s = 0
  · rw [if_pos c0, if_pos c0]
    have z1 := added_nat (s := s) (p := 5) (v := 1) (by omega)
    have z2 := added_nat (s := t) (p := 5) (v := 1) (by omega)
    refine ⟨by rw [z1]; simp [ls], by rw [z2]; simp [lt], rfl, ⟨a1, rfl⟩, bt, ?_, ?_⟩
    · rw [z1, z2, getD_set_same (by omega), getD_set_same (by omega), e5]
    · rw [z1, z2, getD_set_other (by decide), getD_set_other (by decide), e6]
  · rw [if_neg c0, if_neg c0]
    by_cases c1 : hc.s = 1
    · rw [if_pos c1, if_pos c1]
      have z1 := loaded_zs s ((6 : Nat) : Int)
      have z2 := loaded_zs t ((6 : Nat) : Int)
      refine ⟨by rw [z1]; exact ls, by rw [z2]; exact lt, rfl, ?_, bt, by rw [z1, z2]; exact e5, by rw [z1, z2]; exact e6⟩
      by_cases hx : s.zs.getD 6 0 = hc.x
      · rw [if_pos hx]; exact ⟨a1, rfl⟩
      · rw [if_neg hx]; exact ⟨a1, a2⟩
    · rw [if_neg c1, if_neg c1]
      exact ⟨ls, lt, rfl, ⟨a1, a2⟩, bt, e5, e6⟩
theorem API.dropA {s t : MS} {ha hb hc : HD} (h : API s t ha hb hc) : API (tkDrop mp4 s ha).2 (tkDrop mp4 t hc).2 (tkDrop mp4 s ha).1 hb (tkDrop mp4 t hc).1 := by
  have hm := h.may
  obtain ⟨ls, lt, same, ⟨a1, a2⟩, bt, e5, e6⟩ := h
  subst same
  obtain ⟨p5, p6, v5, v6⟩ := lock0 s ls
  unfold tkDrop
  rw [a2, p6]
  by_cases c9 : hc.s = 9
  · rw [if_pos ⟨hm, c9⟩, if_pos ⟨hm, c9⟩]
    have z1 := stored_nat (s := s) (p := 6) (v := wrap64 (hc.x + 1)) (by omega)
    have z2 := stored_nat (s := t) (p := 6) (v := wrap64 (hc.x + 1)) (by omega)
    refine ⟨by rw [z1]; simp [ls], by rw [z2]; simp [lt], rfl, ⟨a1, rfl⟩, bt, ?_, ?_⟩
    · rw [z1, z2, getD_set_other (by decide), getD_set_other (by decide), e5]
    · rw [z1, z2, getD_set_same (by omega), getD_set_same (by omega)]
  · rw [if_neg fun k => c9 k.2, if_neg fun k => c9 k.2]
    exact ⟨ls, lt, rfl, ⟨a1, a2⟩, bt, e5, e6⟩
theorem API.takeB {s t : MS} {ha hb hc : HD} (h : API s t ha hb hc) : API (tkTake mp4 s hb).2 t ha (tkTake mp4 s hb).1 hc := by
  have hm := h.mayb
  obtain ⟨ls, lt, same, a, ⟨b1, b2⟩, e5, e6⟩ := h
  unfold tkTake
  rw [if_pos hm, b2, lock1.1, lock1.2]
  by_cases c0 : hb.s = 0
  · rw [if_pos c0]
    have z1 := added_nat (s := s) (p := 11) (v := 1) (by omega)
    exact ⟨by rw [z1]; simp [ls], lt, same, a, ⟨b1, rfl⟩, by rw [z1, getD_set_other (by decide)]; exact e5, by rw [z1, getD_set_other (by decide)]; exact e6⟩
  · rw [if_neg c0]
    by_cases c1 : hb.s = 1
    · rw [if_pos c1]
      have z1 := loaded_zs s ((12 : Nat) : Int)
      refine ⟨by rw [z1]; exact ls, lt, same, a, ?_, by rw [z1]; exact e5, by rw [z1]; exact e6⟩
      split
      · exact ⟨b1, rfl⟩
      · exact ⟨b1, b2⟩
    · rw [if_neg c1]
      exact ⟨ls, lt, same, a, ⟨b1, b2⟩, e5, e6⟩
theorem API.dropB {s t : MS} {ha hb hc : HD} (h : API s t ha hb hc) : API (tkDrop mp4 s hb).2 t ha (tkDrop mp4 s hb).1 hc := by
  have hm := h.mayb
  obtain ⟨ls, lt, same, a, ⟨b1, b2⟩, e5, e6⟩ := h
  unfold tkDrop
  rw [b2, lock1.2]
  by_cases c9 : hb.s = 9
  · rw [if_pos ⟨hm, c9⟩]
    have z1 := stored_nat (s := s) (p := 12) (v := wrap64 (hb.x + 1)) (by omega)
    exact ⟨by rw [z1]; simp [ls], lt, same, a, ⟨b1, rfl⟩, by rw [z1, getD_set_other (by decide)]; exact e5, by rw [z1, getD_set_other (by decide)]; exact e6⟩
  · rw [if_neg fun k => c9 k.2]
    exact ⟨ls, lt, same, a, ⟨b1, b2⟩, e5, e6⟩

structure ApAt (w : World) (q b : Nat) (vw : Value) (d : Nat) (vd : Value) (qa qb qc : Nat) (s t : MS) (ha hb hc : HD) (W : World) : Prop where
  map : MapAt 26 W q mp4
  m1 : Mem W w.heap.size b vw s
  m2 : Mem W w.heap.size d vd t
  ap : ∀ k, MemS b vw k → ¬ MemS d vd k
  oa : HandAt W qa ha
  ob : HandAt W qb hb
  oc : HandAt W qc hc
  fr : ∀ k, MemS b vw k ∨ MemS d vd k → k ≠ q ∧ k ≠ qa ∧ k ≠ qb ∧ k ≠ qc
  ne : q ≠ qa ∧ q ≠ qb ∧ q ≠ qc ∧ qa ≠ qb ∧ qa ≠ qc ∧ qb ≠ qc
  q0 : w.heap.size ≤ q ∧ w.heap.size ≤ qa ∧ w.heap.size ≤ qb ∧ w.heap.size ≤ qc
  below : Below w.heap.size w W

section
variable {w : World} {q b : Nat} {vw : Value} {d : Nat} {vd : Value} {qa qb qc : Nat} {s t : MS} {ha hb hc : HD} {W W' : World}
theorem ApAt.later (k : ApAt w q b vw d vd qa qb qc s t ha hb hc W) (h : Below W.heap.size W W') : ApAt w q b vw d vd qa qb qc s t ha hb hc W' :=
  ⟨k.map.below h, k.m1.kept (Wrote.of_below h (fun _ => False)) (fun _ _ h => h), k.m2.kept (Wrote.of_below h (fun _ => False)) (fun _ _ h => h), k.ap, k.oa.below h, k.ob.below h, k.oc.below h, k.fr, k.ne, k.q0, bthen k.below h⟩
theorem ApAt.one {s' : MS} (k : ApAt w q b vw d vd qa qb qc s t ha hb hc W) (hm : Mem W' w.heap.size b vw s') (hw : Wrote (MemS b vw) W W') : ApAt w q b vw d vd qa qb qc s' t ha hb hc W' :=
  ⟨(hw.block q k.map.lt fun h => (k.fr q (.inl h)).1 rfl).trans k.map, hm, k.m2.kept hw fun j h1 h2 => k.ap j h2 h1, k.ap, k.oa.kept hw fun h => (k.fr qa (.inl h)).2.1 rfl, k.ob.kept hw fun h => (k.fr qb (.inl h)).2.2.1 rfl, k.oc.kept hw fun h => (k.fr qc (.inl h)).2.2.2 rfl, k.fr, k.ne, k.q0, k.below.trans (hw.below k.below.size k.m1.old)⟩
theorem ApAt.two {t' : MS} (k : ApAt w q b vw d vd qa qb qc s t ha hb hc W) (hm : Mem W' w.heap.size d vd t') (hw : Wrote (MemS d vd) W W') : ApAt w q b vw d vd qa qb qc s t' ha hb hc W' :=
  ⟨(hw.block q k.map.lt fun h => (k.fr q (.inr h)).1 rfl).trans k.map, k.m1.kept hw fun j h1 h2 => k.ap j h1 h2, hm, k.ap, k.oa.kept hw fun h => (k.fr qa (.inr h)).2.1 rfl, k.ob.kept hw fun h => (k.fr qb (.inr h)).2.2.1 rfl, k.oc.kept hw fun h => (k.fr qc (.inr h)).2.2.2 rfl, k.fr, k.ne, k.q0, k.below.trans (hw.below k.below.size k.m2.old)⟩
theorem ApAt.setA (k : ApAt w q b vw d vd qa qb qc s t ha hb hc W) (g : HD) :
    ApAt w q b vw d vd qa qb qc s t g hb hc (((((W.setCell ⟨qa, 0, none⟩ (.int .i64 g.t)).setCell ⟨qa, 1, none⟩ (.int .i64 g.l)).setCell ⟨qa, 2, none⟩ (.int .i64 g.s)).setCell ⟨qa, 3, none⟩ (.bool g.rd)).setCell ⟨qa, 4, none⟩ (.int .i64 g.x)) := by
  have hw := (Wrote.refl (fun j => j = qa) W).set5 (q := qa) (fun _ => rfl) (.int .i64 g.t) (.int .i64 g.l) (.int .i64 g.s) (.bool g.rd) (.int .i64 g.x)
  exact ⟨(hw.block q k.map.lt k.ne.1).trans k.map, k.m1.kept hw fun j h e => (k.fr j (.inl h)).2.1 e, k.m2.kept hw fun j h e => (k.fr j (.inr h)).2.1 e, k.ap, k.oa.set5 g, k.ob.kept hw (Ne.symm k.ne.2.2.2.1), k.oc.kept hw (Ne.symm k.ne.2.2.2.2.1), k.fr, k.ne, k.q0, k.below.trans (hw.below k.below.size fun j hj e => by have := k.q0.2.1; omega)⟩
theorem ApAt.setB (k : ApAt w q b vw d vd qa qb qc s t ha hb hc W) (g : HD) :
    ApAt w q b vw d vd qa qb qc s t ha g hc (((((W.setCell ⟨qb, 0, none⟩ (.int .i64 g.t)).setCell ⟨qb, 1, none⟩ (.int .i64 g.l)).setCell ⟨qb, 2, none⟩ (.int .i64 g.s)).setCell ⟨qb, 3, none⟩ (.bool g.rd)).setCell ⟨qb, 4, none⟩ (.int .i64 g.x)) := by
  have hw := (Wrote.refl (fun j => j = qb) W).set5 (q := qb) (fun _ => rfl) (.int .i64 g.t) (.int .i64 g.l) (.int .i64 g.s) (.bool g.rd) (.int .i64 g.x)
  exact ⟨(hw.block q k.map.lt k.ne.2.1).trans k.map, k.m1.kept hw fun j h e => (k.fr j (.inl h)).2.2.1 e, k.m2.kept hw fun j h e => (k.fr j (.inr h)).2.2.1 e, k.ap, k.oa.kept hw k.ne.2.2.2.1, k.ob.set5 g, k.oc.kept hw (Ne.symm k.ne.2.2.2.2.2), k.fr, k.ne, k.q0, k.below.trans (hw.below k.below.size fun j hj e => by have := k.q0.2.2.1; omega)⟩
theorem ApAt.setC (k : ApAt w q b vw d vd qa qb qc s t ha hb hc W) (g : HD) :
    ApAt w q b vw d vd qa qb qc s t ha hb g (((((W.setCell ⟨qc, 0, none⟩ (.int .i64 g.t)).setCell ⟨qc, 1, none⟩ (.int .i64 g.l)).setCell ⟨qc, 2, none⟩ (.int .i64 g.s)).setCell ⟨qc, 3, none⟩ (.bool g.rd)).setCell ⟨qc, 4, none⟩ (.int .i64 g.x)) := by
  have hw := (Wrote.refl (fun j => j = qc) W).set5 (q := qc) (fun _ => rfl) (.int .i64 g.t) (.int .i64 g.l) (.int .i64 g.s) (.bool g.rd) (.int .i64 g.x)
  exact ⟨(hw.block q k.map.lt k.ne.2.2.1).trans k.map, k.m1.kept hw fun j h e => (k.fr j (.inl h)).2.2.2 e, k.m2.kept hw fun j h e => (k.fr j (.inr h)).2.2.2 e, k.ap, k.oa.kept hw k.ne.2.2.2.2.1, k.ob.kept hw k.ne.2.2.2.2.2, k.oc.set5 g, k.fr, k.ne, k.q0, k.below.trans (hw.below k.below.size fun j hj e => by have := k.q0.2.2.2; omega)⟩
end

/-- The stages of a round of lock 0: the two calls (3, 7), the two stores (8, 9). -/
def ApD (w : World) (q b : Nat) (vw : Value) (d : Nat) (vd : Value) (qa qb qc : Nat) (s s' t t' : MS) (ha hb hc g g' : HD) (L : Nat → Bool) (W : World) : Prop :=
  ApAt w q b vw d vd qa qb qc (bif L 3 then s' else s) (bif L 7 then t' else t) (bif L 8 then g else ha) hb (bif L 9 then g' else hc) W
section
variable {w : World} {q b : Nat} {vw : Value} {d : Nat} {vd : Value} {qa qb qc : Nat} {s s' t t' : MS} {ha hb hc g g' : HD} {L : Nat → Bool} {W : World}
theorem ApD.start (hL : ∀ j, L j = false) (h : ApAt w q b vw d vd qa qb qc s t ha hb hc W) : ApD w q b vw d vd qa qb qc s s' t t' ha hb hc g g' L W.drew := by
  unfold ApD; rw [hL 3, hL 7, hL 8, hL 9]; exact h.later (bdrew (bid W))
theorem ApD.reads (h : ApD w q b vw d vd qa qb qc s s' t t' ha hb hc g g' L W) (h8 : L 8 = false) (h9 : L 9 = false) : ∃ s t, ApAt w q b vw d vd qa qb qc s t ha hb hc W := by
  unfold ApD at h; rw [h8, h9] at h; exact ⟨_, _, h⟩
theorem ApD.at3 (h : ApD w q b vw d vd qa qb qc s s' t t' ha hb hc g g' L W) (hL : L 3 = false) : ApAt w q b vw d vd qa qb qc s (bif L 7 then t' else t) (bif L 8 then g else ha) hb (bif L 9 then g' else hc) W := by
  unfold ApD at h; rw [hL] at h; exact h
theorem ApD.at7 (h : ApD w q b vw d vd qa qb qc s s' t t' ha hb hc g g' L W) (hL : L 7 = false) : ApAt w q b vw d vd qa qb qc (bif L 3 then s' else s) t (bif L 8 then g else ha) hb (bif L 9 then g' else hc) W := by
  unfold ApD at h; rw [hL] at h; exact h
theorem ApD.at8 (h : ApD w q b vw d vd qa qb qc s s' t t' ha hb hc g g' L W) (hL : L 8 = false) : ApAt w q b vw d vd qa qb qc (bif L 3 then s' else s) (bif L 7 then t' else t) ha hb (bif L 9 then g' else hc) W := by
  unfold ApD at h; rw [hL] at h; exact h
theorem ApD.at9 (h : ApD w q b vw d vd qa qb qc s s' t t' ha hb hc g g' L W) (hL : L 9 = false) : ApAt w q b vw d vd qa qb qc (bif L 3 then s' else s) (bif L 7 then t' else t) (bif L 8 then g else ha) hb hc W := by
  unfold ApD at h; rw [hL] at h; exact h
theorem ApD.end_ (hall : ∀ j, j < 10 → L j = true) (h : ApD w q b vw d vd qa qb qc s s' t t' ha hb hc g g' L W) : ApAt w q b vw d vd qa qb qc s' t' g hb g' W := by
  unfold ApD at h; rw [hall 3 (by decide), hall 7 (by decide), hall 8 (by decide), hall 9 (by decide)] at h; exact h
end
theorem ApAt.satReads {w : World} {q b : Nat} {vw : Value} {d : Nat} {vd : Value} {qa qb qc : Nat} {ha hb hc : HD} (x : Sat (fun W => ∃ s t, ApAt w q b vw d vd qa qb qc s t ha hb hc W)) :
    x.v.cell? ⟨q, 0, none⟩ = some (.int .i64 2) ∧ x.v.cell? ⟨q, 1, none⟩ = some (.int .i64 2) ∧ x.v.cell? ⟨q, 2, none⟩ = some (.int .i64 4) ∧ x.v.cell? ⟨q, 3, none⟩ = some (.int .i64 0) ∧ x.v.cell? ⟨q, 4, none⟩ = some (.int .i64 2) ∧
      x.v.cell? ⟨qa, 0, none⟩ = some (.int .i64 ha.t) ∧ x.v.cell? ⟨qa, 1, none⟩ = some (.int .i64 ha.l) ∧ x.v.cell? ⟨qa, 2, none⟩ = some (.int .i64 ha.s) ∧ x.v.cell? ⟨qa, 3, none⟩ = some (.bool ha.rd) ∧ x.v.cell? ⟨qa, 4, none⟩ = some (.int .i64 ha.x) ∧
      x.v.cell? ⟨qc, 0, none⟩ = some (.int .i64 hc.t) ∧ x.v.cell? ⟨qc, 1, none⟩ = some (.int .i64 hc.l) ∧ x.v.cell? ⟨qc, 2, none⟩ = some (.int .i64 hc.s) ∧ x.v.cell? ⟨qc, 3, none⟩ = some (.bool hc.rd) ∧ x.v.cell? ⟨qc, 4, none⟩ = some (.int .i64 hc.x) := by
  obtain ⟨v, p⟩ := x
  obtain ⟨s1, t1, h⟩ := p
  obtain ⟨m0, m1, m2, m3, m4, _⟩ := h.map.facts
  obtain ⟨e0, e1, e2, e3, e4, _⟩ := h.oa.facts
  obtain ⟨f0, f1, f2, f3, f4, _⟩ := h.oc.facts
  exact ⟨m0, m1, m2, m3, m4, e0, e1, e2, e3, e4, f0, f1, f2, f3, f4⟩

/-- What the loop over the picks keeps. -/
def ApRel (w : World) (q b : Nat) (vw : Value) (d : Nat) (vd : Value) (qa qb qc : Nat) (n : Nat) (i : Value) (W : World) : Prop :=
  ∃ j : Nat, j ≤ n ∧ i = .int .i64 j ∧ ∃ s t ha hb hc, API s t ha hb hc ∧ ApAt w q b vw d vd qa qb qc s t ha hb hc W

theorem u64_nn (n : Int) : 0 ≤ IntKind.u64.wrap n := by
  rw [IntKind.wrap_u64]
  omega

set_option maxRecDepth 100000 in
set_option maxHeartbeats 8000000 in
theorem apart_any (a0 : Option Addr) (len0 cap0 : Nat) (zs0 : List Int) (w : World) (hr0 : IntRow w a0 len0 zs0) (hl0 : len0 ≤ maxLen) :
    Calls Try.prog 6 #[.slice a0 len0 cap0] w fun e w' => e = .returned (.bool true) ∧ Below w.heap.size w w' := by
  unfold maxLen at hl0
  have HR0 := hid hr0
  clear hr0
  by_cases hlen : 100 < len0
  · go_enter Try.func6, Try.ntmps6
    go_wp2_with (go_at_call 21; (with_reducible refine (told8_any _).mono ?_); rintro e w1 ⟨rfl, hb1⟩)
    go_ret
    exact ⟨rfl, hb1⟩
  have HBO := hid (fun (x : World) => (show Calls Try.prog 8 #[mp4.v] x (MadeBoth 48 x) from by have := Both_any mp4 x mp4_ok; rwa [mp4_size] at this))
  go_enter Try.func6, Try.ntmps6
  go_upto_region 4 with (go_at_call 7; (with_reducible refine (Map_any _).mono ?_); rintro e w1 ⟨rfl, hb1⟩; have HB1 := hid hb1; clear hb1)
  refine wp_rename (fun W => MapAt 26 W w1.heap.size mp4 ∧ Below w.heap.size w W) ⟨MapAt.new _ w1 mp4, bnew HB1.out _⟩ ?_
  have hq0 := HB1.out.size
  generalize w1.heap.size = q at hq0 ⊢
  clear HB1
  rintro W ⟨hk, hb⟩
  have HK := hid hk
  have HB := hid hb
  obtain ⟨m0, m1, m2, m3, m4, _⟩ := hk.facts
  clear hk hb
  go_upto_region 5 with (go_at_call 8; (with_reducible refine (HBO.out _).mono ?_); rintro e w2 ⟨b, vw, c0, vr, rfl, hp, hb2⟩; have HP := hid hp; have HB2 := hid hb2; clear hp hb2)
  have HK2 := hid (HK.out.below HB2.out)
  clear m0 m1 m2 m3 m4
  obtain ⟨m0, m1, m2, m3, m4, _⟩ := HK2.out.facts
  go_upto_region 8 with (go_at_call 8; (with_reducible refine (HBO.out _).mono ?_); rintro e w3 ⟨d, vd, c1, vr1, rfl, hp, hb3⟩; have HP3 := hid hp; have HB3 := hid hb3; clear hp hb3)
  have hsz2 := HB2.out.size
  have hsz3 := HB3.out.size
  have hszW := HB.out.size
  have hqW := HK.out.lt
  have HX := hid (show ∀ g1 g2 g3 : HD, ApAt w q b vw d vd w3.heap.size (w3.heap.size + 1) (w3.heap.size + 1 + 1) (MS.new (zrow 48)) (MS.new (zrow 48)) g1 g2 g3 (((w3.alloc (.cells g1.cells 24)).alloc (.cells g2.cells 24)).alloc (.cells g3.cells 24)) from fun g1 g2 g3 => by
    have h1 := HandAt.new w3 g1
    have h2 := HandAt.new (w3.alloc (.cells g1.cells 24)) g2
    have h3 := HandAt.new ((w3.alloc (.cells g1.cells 24)).alloc (.cells g2.cells 24)) g3
    rw [size_alloc1] at h2
    rw [size_alloc2] at h3
    have hbb := bnew (bnew (bnew (bid w3) (.cells g1.cells 24)) (.cells g2.cells 24)) (.cells g3.cells 24)
    have k1 : Mem w3 w.heap.size b vw (MS.new (zrow 48)) := (HP.out.mem.mono hszW).kept (Wrote.of_below HB3.out (fun _ => False)) (fun _ _ h => h)
    have k2 : Mem w3 w2.heap.size d vd (MS.new (zrow 48)) := HP3.out.mem
    refine ⟨(HK2.out.below HB3.out).below hbb, k1.kept (Wrote.of_below hbb (fun _ => False)) (fun _ _ h => h), (k2.mono (by omega)).kept (Wrote.of_below hbb (fun _ => False)) (fun _ _ h => h), fun j hj hj2 => ?_, h1.below (bnew (bnew (bid _) _) _), h2.below (bnew (bid _) _), h3, fun j hj => ?_, ⟨by omega, by omega, by omega, by omega, by omega, by omega⟩, ⟨hq0, by omega, by omega, by omega⟩, bthen (bthen (bthen HB.out HB2.out) HB3.out) hbb⟩
    · have y1 := HP.out.mem.hold j hj
      exact k2.old j y1 hj2
    · have y1 : j < w3.heap.size := by rcases hj with hj | hj; exact k1.hold j hj; exact k2.hold j hj
      refine ⟨fun e => ?_, by omega, by omega, by omega⟩
      subst e
      rcases hj with hj | hj
      · exact HP.out.mem.old _ hqW hj
      · exact k2.old _ (by omega) hj)
  clear m0 m1 m2 m3 m4
  go_upto_region 9 with fail
  refine wp_rename (fun W' => ApAt w q b vw d vd w3.heap.size (w3.heap.size + 1) (w3.heap.size + 1 + 1) (MS.new (zrow 48)) (MS.new (zrow 48)) ⟨1, 0, 0, false, 0⟩ ⟨2, 1, 0, false, 0⟩ ⟨1, 0, 0, false, 0⟩ W') ?_ ?_
  · exact HX.out _ _ _
  generalize w3.heap.size = qa
  generalize qa + 1 = qb
  generalize qb + 1 = qc
  clear HX HP3 HB3 HP HB2 HK2 HB HK HBO hsz2 hsz3 hszW hqW hq0
  intro W4 hk
  have HK := hid hk
  clear hk
  go_wp2_with fail
  go_loopw [11] (fun i W => ApRel w q b vw d vd qa qb qc len0 i W) (fun i _ => len0 - (intOf i).toNat)
  case atStart => exact ⟨0, by omega, rfl, _, _, _, _, _, ⟨zrow_len 48, zrow_len 48, rfl, ⟨rfl, rfl⟩, ⟨rfl, rfl⟩, rfl, rfl⟩, HK.out⟩
  case round =>
    clear HK
    obtain ⟨j, hj, rfl, s, t, ha, hb, hc, hP, hA⟩ := hrel
    have HP := hid hP
    have HK := hid hA
    clear hP hA
    by_cases hlt : j < len0
    · obtain ⟨g, off, rfl, _, hcc⟩ := (HR0.out.kept (Wrote.of_below HK.out.below (fun _ => False)) fun _ _ _ h => h).at (by omega)
      have z0 := hcc j hlt
      generalize zs0.getD j 0 = z at z0
      clear hcc
      have i1 : (0 : Int) ≤ (j : Int) := by omega
      have i2 : (j : Int) < (len0 : Int) := by omega
      go_upto_region 13 with fail
      obtain ⟨m0, m1, m2, m3, m4, _⟩ := HK.out.map.facts
      obtain ⟨e0, e1, e2, e3, e4, ef⟩ := HK.out.oa.facts
      obtain ⟨f0, f1, f2, f3, f4, ff⟩ := HK.out.ob.facts
      generalize ((IntKind.u64.wrap ((IntKind.u64.wrap z).tdiv 2)).tmod 2 == 0) = B1
      cases hb2 : ((IntKind.u64.wrap z).tmod 2 == 0)
      · by_cases hd : B1 = true ∧ ha.s = 9
        · obtain ⟨rfl, h9⟩ := hd
          have h9b : (ha.s == 9) = true := by simp [h9]
          clear h9
          go_upto_region 18 with fail
          clear m0 m1 m2 m3 m4 e0 e1 e2 e3 e4 ef f0 f1 f2 f3 f4 ff
          have hne1 : Nonempty (Sat (fun W => ∃ s t, ApAt w q b vw d vd qa qb qc s t ha hb hc W)) := ⟨⟨_, _, _, HK.out⟩⟩
          have hne2 : Nonempty (Sat (fun _ => True)) := ⟨⟨w, trivial⟩⟩
          have hcells := fun (x : Sat (fun W => ∃ s t, ApAt w q b vw d vd qa qb qc s t ha hb hc W)) => ApAt.satReads x
          have y0 := fun x => (hcells x).1
          have y1 := fun x => (hcells x).2.1
          have y2 := fun x => (hcells x).2.2.1
          have y3 := fun x => (hcells x).2.2.2.1
          have y4 := fun x => (hcells x).2.2.2.2.1
          have y5 := fun x => (hcells x).2.2.2.2.2.1
          have y6 := fun x => (hcells x).2.2.2.2.2.2.1
          have y7 := fun x => (hcells x).2.2.2.2.2.2.2.1
          have y8 := fun x => (hcells x).2.2.2.2.2.2.2.2.1
          have y9 := fun x => (hcells x).2.2.2.2.2.2.2.2.2.1
          have y10 := fun x => (hcells x).2.2.2.2.2.2.2.2.2.2.1
          have y11 := fun x => (hcells x).2.2.2.2.2.2.2.2.2.2.2.1
          have y12 := fun x => (hcells x).2.2.2.2.2.2.2.2.2.2.2.2.1
          have y13 := fun x => (hcells x).2.2.2.2.2.2.2.2.2.2.2.2.2.1
          have y14 := fun x => (hcells x).2.2.2.2.2.2.2.2.2.2.2.2.2.2
          clear hcells
          refine wp_region_staged (ApD w q b vw d vd qa qb qc s (tkDrop mp4 s ha).2 t (tkDrop mp4 t hc).2 ha hb hc (tkDrop mp4 s ha).1 (tkDrop mp4 t hc).1) (by kernel_rfl) (by kernel_rfl) (fun L hL => ApD.start hL HK.out) ?_
          refine wpS_plain (fun W => ∃ s t, ApAt w q b vw d vd qa qb qc s t ha hb hc W) (fun L W hL hcl hd => by have h := hcl.no hL (j := 3) (by kernel_rfl); have h := hcl.no h (j := 7) (by kernel_rfl); have h8 := hcl.no h (j := 8) (by kernel_rfl); have h9 := hcl.no h8 (j := 9) (by kernel_rfl); exact ApD.reads hd h8 h9) (fun _ _ h => h) rfl rfl ?_
          intro KK hKK
          go_big_quiet_op
          go_big_quiet_on
          refine wpS_plain (fun _ => True) (fun _ _ _ _ _ => trivial) (fun _ _ h => h) rfl rfl ?_
          intro KK hKK
          go_big_quiet_op
          go_big_quiet_on
          refine wpS_plain (fun W => ∃ s t, ApAt w q b vw d vd qa qb qc s t ha hb hc W) (fun L W hL hcl hd => by have h := hcl.no hL (j := 3) (by kernel_rfl); have h := hcl.no h (j := 7) (by kernel_rfl); have h8 := hcl.no h (j := 8) (by kernel_rfl); have h9 := hcl.no h8 (j := 9) (by kernel_rfl); exact ApD.reads hd h8 h9) (fun _ _ h => h) rfl rfl ?_
          intro KK hKK
          go_big_quiet_op
          go_big_quiet_on
          refine wpS_call 19 #[(PM.v mp4), .pointer (some ⟨b, 0, none⟩), ha.v] (tkDrop mp4 s ha).1.v rfl (fun _ => by go_simp) ?_ ?_
          · intro L W hL hcl hd
            have hd1 := ApD.at3 hd hL
            refine (Drop_any mp4 ha _ _ _ _ _ hd1.m1 (by rw [mp4_size, HP.out.ls]; decide) mp4_ok).mono ?_
            rintro e w'' ⟨rfl, hm, hw⟩
            exact ⟨rfl, hd1.one hm hw⟩
          (try simp only [Act.put, List.getElem_toArray, List.getElem_cons_zero, List.getElem_cons_succ, List.setIfInBounds_toArray, List.set_cons_zero, List.set_cons_succ])
          refine wpS_plain (fun W => ∃ s t, ApAt w q b vw d vd qa qb qc s t ha hb hc W) (fun L W hL hcl hd => by have h := hcl.no hL (j := 7) (by kernel_rfl); have h8 := hcl.no h (j := 8) (by kernel_rfl); have h9 := hcl.no h8 (j := 9) (by kernel_rfl); exact ApD.reads hd h8 h9) (fun _ _ h => h) rfl rfl ?_
          intro KK hKK
          go_big_quiet_op
          go_big_quiet_on
          refine wpS_plain (fun _ => True) (fun _ _ _ _ _ => trivial) (fun _ _ h => h) rfl rfl ?_
          intro KK hKK
          go_big_quiet_op
          go_big_quiet_on
          refine wpS_plain (fun W => ∃ s t, ApAt w q b vw d vd qa qb qc s t ha hb hc W) (fun L W hL hcl hd => by have h := hcl.no hL (j := 7) (by kernel_rfl); have h8 := hcl.no h (j := 8) (by kernel_rfl); have h9 := hcl.no h8 (j := 9) (by kernel_rfl); exact ApD.reads hd h8 h9) (fun _ _ h => h) rfl rfl ?_
          intro KK hKK
          go_big_quiet_op
          go_big_quiet_on
          refine wpS_call 19 #[(PM.v mp4), .pointer (some ⟨d, 0, none⟩), hc.v] (tkDrop mp4 t hc).1.v rfl (fun _ => by go_simp) ?_ ?_
          · intro L W hL hcl hd
            have hd1 := ApD.at7 hd hL
            refine (Drop_any mp4 hc _ _ _ _ _ hd1.m2 (by rw [mp4_size, HP.out.lt]; decide) mp4_ok).mono ?_
            rintro e w'' ⟨rfl, hm, hw⟩
            exact ⟨rfl, hd1.two hm hw⟩
          (try simp only [Act.put, List.getElem_toArray, List.getElem_cons_zero, List.getElem_cons_succ, List.setIfInBounds_toArray, List.set_cons_zero, List.set_cons_succ])
          refine wpS_store rfl ?_ ?_
          · intro L W hL hcl hd
            have hd1 := ApD.at8 hd hL
            obtain ⟨e0, e1, e2, e3, e4, ef⟩ := hd1.oa.facts
            exact ⟨_, by go_simp, hd1.setA (tkDrop mp4 s ha).1⟩
          (try simp only [Act.put, List.getElem_toArray, List.getElem_cons_zero, List.getElem_cons_succ, List.setIfInBounds_toArray, List.set_cons_zero, List.set_cons_succ])
          refine wpS_store rfl ?_ ?_
          · intro L W hL hcl hd
            have hd1 := ApD.at9 hd hL
            obtain ⟨e0, e1, e2, e3, e4, ef⟩ := hd1.oc.facts
            exact ⟨_, by go_simp, hd1.setC (tkDrop mp4 t hc).1⟩
          (try simp only [Act.put, List.getElem_toArray, List.getElem_cons_zero, List.getElem_cons_succ, List.setIfInBounds_toArray, List.set_cons_zero, List.set_cons_succ])
          intro L W hall hd
          have HK9 := hid (ApD.end_ hall hd)
          clear y0 y1 y2 y3 y4 y5 y6 y7 y8 y9 y10 y11 y12 y13 y14
          have HP9 := hid (HP.out.dropA)
          have hsm := HP9.out.same
          have hoa := HK9.out.oa
          have hoc := HK9.out.oc
          rw [hsm] at hoc
          clear hsm
          have hne := neq_hand
          have hg := guard_hand
          generalize hG : (tkDrop mp4 s ha).1 = G at hoa hoc
          clear hG
          obtain ⟨Gt, Gl, Gs, Gr, Gx⟩ := G
          obtain ⟨e0, e1, e2, e3, e4, ef⟩ := hoa.facts
          obtain ⟨f0, f1, f2, f3, f4, ff⟩ := hoc.facts
          clear hoa hoc
          have hsame := sameH_refl ⟨Gt, Gl, Gs, Gr, Gx⟩
          go_wp2_with fail
          go_roundw
          case rel => first | exact ⟨j + 1, by omega, by go_num, _, _, _, _, _, HP9.out, HK9.out⟩ | (repeat apply Exists.intro; exact ⟨⟨j + 1, by omega, by go_num, _, _, _, _, _, HP9.out, HK9.out⟩, rfl⟩)
          case measure => simp [intOf]; omega
        · have h9b : B1 = true → (ha.s == 9) = false := fun h => by cases h3 : (ha.s == 9); rfl; exact absurd ⟨h, by simpa using h3⟩ hd
          clear hd
          cases B1
          case' true => have h9c := h9b rfl
          all_goals
            clear h9b
            go_upto_region 19 with fail
            clear m0 m1 m2 m3 m4 e0 e1 e2 e3 e4 ef f0 f1 f2 f3 f4 ff
            have hne1 : Nonempty (Sat (fun W => ∃ s t, ApAt w q b vw d vd qa qb qc s t ha hb hc W)) := ⟨⟨_, _, _, HK.out⟩⟩
            have hne2 : Nonempty (Sat (fun _ => True)) := ⟨⟨w, trivial⟩⟩
            have hcells := fun (x : Sat (fun W => ∃ s t, ApAt w q b vw d vd qa qb qc s t ha hb hc W)) => ApAt.satReads x
            have y0 := fun x => (hcells x).1
            have y1 := fun x => (hcells x).2.1
            have y2 := fun x => (hcells x).2.2.1
            have y3 := fun x => (hcells x).2.2.2.1
            have y4 := fun x => (hcells x).2.2.2.2.1
            have y5 := fun x => (hcells x).2.2.2.2.2.1
            have y6 := fun x => (hcells x).2.2.2.2.2.2.1
            have y7 := fun x => (hcells x).2.2.2.2.2.2.2.1
            have y8 := fun x => (hcells x).2.2.2.2.2.2.2.2.1
            have y9 := fun x => (hcells x).2.2.2.2.2.2.2.2.2.1
            have y10 := fun x => (hcells x).2.2.2.2.2.2.2.2.2.2.1
            have y11 := fun x => (hcells x).2.2.2.2.2.2.2.2.2.2.2.1
            have y12 := fun x => (hcells x).2.2.2.2.2.2.2.2.2.2.2.2.1
            have y13 := fun x => (hcells x).2.2.2.2.2.2.2.2.2.2.2.2.2.1
            have y14 := fun x => (hcells x).2.2.2.2.2.2.2.2.2.2.2.2.2.2
            clear hcells
            refine wp_region_staged (ApD w q b vw d vd qa qb qc s (tkTake mp4 s ha).2 t (tkTake mp4 t hc).2 ha hb hc (tkTake mp4 s ha).1 (tkTake mp4 t hc).1) (by kernel_rfl) (by kernel_rfl) (fun L hL => ApD.start hL HK.out) ?_
            refine wpS_plain (fun W => ∃ s t, ApAt w q b vw d vd qa qb qc s t ha hb hc W) (fun L W hL hcl hd => by have h := hcl.no hL (j := 3) (by kernel_rfl); have h := hcl.no h (j := 7) (by kernel_rfl); have h8 := hcl.no h (j := 8) (by kernel_rfl); have h9 := hcl.no h8 (j := 9) (by kernel_rfl); exact ApD.reads hd h8 h9) (fun _ _ h => h) rfl rfl ?_
            intro KK hKK
            go_big_quiet_op
            go_big_quiet_on
            refine wpS_plain (fun _ => True) (fun _ _ _ _ _ => trivial) (fun _ _ h => h) rfl rfl ?_
            intro KK hKK
            go_big_quiet_op
            go_big_quiet_on
            refine wpS_plain (fun W => ∃ s t, ApAt w q b vw d vd qa qb qc s t ha hb hc W) (fun L W hL hcl hd => by have h := hcl.no hL (j := 3) (by kernel_rfl); have h := hcl.no h (j := 7) (by kernel_rfl); have h8 := hcl.no h (j := 8) (by kernel_rfl); have h9 := hcl.no h8 (j := 9) (by kernel_rfl); exact ApD.reads hd h8 h9) (fun _ _ h => h) rfl rfl ?_
            intro KK hKK
            go_big_quiet_op
            go_big_quiet_on
            refine wpS_call 14 #[(PM.v mp4), .pointer (some ⟨b, 0, none⟩), ha.v] (tkTake mp4 s ha).1.v rfl (fun _ => by go_simp) ?_ ?_
            · intro L W hL hcl hd
              have hd1 := ApD.at3 hd hL
              refine (Take_any mp4 ha _ _ _ _ _ hd1.m1 (by rw [mp4_size, HP.out.ls]; decide) mp4_ok).mono ?_
              rintro e w'' ⟨rfl, hm, hw⟩
              exact ⟨rfl, hd1.one hm hw⟩
            (try simp only [Act.put, List.getElem_toArray, List.getElem_cons_zero, List.getElem_cons_succ, List.setIfInBounds_toArray, List.set_cons_zero, List.set_cons_succ])
            refine wpS_plain (fun W => ∃ s t, ApAt w q b vw d vd qa qb qc s t ha hb hc W) (fun L W hL hcl hd => by have h := hcl.no hL (j := 7) (by kernel_rfl); have h8 := hcl.no h (j := 8) (by kernel_rfl); have h9 := hcl.no h8 (j := 9) (by kernel_rfl); exact ApD.reads hd h8 h9) (fun _ _ h => h) rfl rfl ?_
            intro KK hKK
            go_big_quiet_op
            go_big_quiet_on
            refine wpS_plain (fun _ => True) (fun _ _ _ _ _ => trivial) (fun _ _ h => h) rfl rfl ?_
            intro KK hKK
            go_big_quiet_op
            go_big_quiet_on
            refine wpS_plain (fun W => ∃ s t, ApAt w q b vw d vd qa qb qc s t ha hb hc W) (fun L W hL hcl hd => by have h := hcl.no hL (j := 7) (by kernel_rfl); have h8 := hcl.no h (j := 8) (by kernel_rfl); have h9 := hcl.no h8 (j := 9) (by kernel_rfl); exact ApD.reads hd h8 h9) (fun _ _ h => h) rfl rfl ?_
            intro KK hKK
            go_big_quiet_op
            go_big_quiet_on
            refine wpS_call 14 #[(PM.v mp4), .pointer (some ⟨d, 0, none⟩), hc.v] (tkTake mp4 t hc).1.v rfl (fun _ => by go_simp) ?_ ?_
            · intro L W hL hcl hd
              have hd1 := ApD.at7 hd hL
              refine (Take_any mp4 hc _ _ _ _ _ hd1.m2 (by rw [mp4_size, HP.out.lt]; decide) mp4_ok).mono ?_
              rintro e w'' ⟨rfl, hm, hw⟩
              exact ⟨rfl, hd1.two hm hw⟩
            (try simp only [Act.put, List.getElem_toArray, List.getElem_cons_zero, List.getElem_cons_succ, List.setIfInBounds_toArray, List.set_cons_zero, List.set_cons_succ])
            refine wpS_store rfl ?_ ?_
            · intro L W hL hcl hd
              have hd1 := ApD.at8 hd hL
              obtain ⟨e0, e1, e2, e3, e4, ef⟩ := hd1.oa.facts
              exact ⟨_, by go_simp, hd1.setA (tkTake mp4 s ha).1⟩
            (try simp only [Act.put, List.getElem_toArray, List.getElem_cons_zero, List.getElem_cons_succ, List.setIfInBounds_toArray, List.set_cons_zero, List.set_cons_succ])
            refine wpS_store rfl ?_ ?_
            · intro L W hL hcl hd
              have hd1 := ApD.at9 hd hL
              obtain ⟨e0, e1, e2, e3, e4, ef⟩ := hd1.oc.facts
              exact ⟨_, by go_simp, hd1.setC (tkTake mp4 t hc).1⟩
            (try simp only [Act.put, List.getElem_toArray, List.getElem_cons_zero, List.getElem_cons_succ, List.setIfInBounds_toArray, List.set_cons_zero, List.set_cons_succ])
            intro L W hall hd
            have HK9 := hid (ApD.end_ hall hd)
            clear y0 y1 y2 y3 y4 y5 y6 y7 y8 y9 y10 y11 y12 y13 y14
            have HP9 := hid (HP.out.takeA)
            have hsm := HP9.out.same
            have hoa := HK9.out.oa
            have hoc := HK9.out.oc
            rw [hsm] at hoc
            clear hsm
            have hne := neq_hand
            have hg := guard_hand
            generalize hG : (tkTake mp4 s ha).1 = G at hoa hoc
            clear hG
            obtain ⟨Gt, Gl, Gs, Gr, Gx⟩ := G
            obtain ⟨e0, e1, e2, e3, e4, ef⟩ := hoa.facts
            obtain ⟨f0, f1, f2, f3, f4, ff⟩ := hoc.facts
            clear hoa hoc
            have hsame := sameH_refl ⟨Gt, Gl, Gs, Gr, Gx⟩
            go_wp2_with fail
            go_roundw
            case rel => first | exact ⟨j + 1, by omega, by go_num, _, _, _, _, _, HP9.out, HK9.out⟩ | (repeat apply Exists.intro; exact ⟨⟨j + 1, by omega, by go_num, _, _, _, _, _, HP9.out, HK9.out⟩, rfl⟩)
            case measure => simp [intOf]; omega
      · by_cases hd : B1 = true ∧ hb.s = 9
        · obtain ⟨rfl, h9⟩ := hd
          have h9b : (hb.s == 9) = true := by simp [h9]
          clear h9
          go_wp2_with (go_at_call 19; (with_reducible refine (Drop_any mp4 hb _ _ _ _ _ HK.out.m1 (by rw [mp4_size, HP.out.ls]; decide) mp4_ok).mono ?_); rintro e w8 ⟨rfl, hm, hw⟩; have HK8 := hid (HK.out.one hm hw); clear hm hw; obtain ⟨f0, f1, f2, f3, f4, ff⟩ := HK8.out.ob.facts)
          have HP9 := hid (HP.out.dropB)
          have HK9 := hid (HK8.out.setB (tkDrop mp4 s hb).1)
          go_roundw
          case rel => first | exact ⟨j + 1, by omega, by go_num, _, _, _, _, _, HP9.out, HK9.out⟩ | (repeat apply Exists.intro; exact ⟨⟨j + 1, by omega, by go_num, _, _, _, _, _, HP9.out, HK9.out⟩, rfl⟩)
          case measure => simp [intOf]; omega
        · have h9b : B1 = true → (hb.s == 9) = false := fun h => by cases h3 : (hb.s == 9); rfl; exact absurd ⟨h, by simpa using h3⟩ hd
          clear hd
          cases B1
          case' true => have h9c := h9b rfl
          all_goals
            clear h9b
            go_wp2_with (go_at_call 14; (with_reducible refine (Take_any mp4 hb _ _ _ _ _ HK.out.m1 (by rw [mp4_size, HP.out.ls]; decide) mp4_ok).mono ?_); rintro e w8 ⟨rfl, hm, hw⟩; have HK8 := hid (HK.out.one hm hw); clear hm hw; obtain ⟨f0, f1, f2, f3, f4, ff⟩ := HK8.out.ob.facts)
            have HP9 := hid (HP.out.takeB)
            have HK9 := hid (HK8.out.setB (tkTake mp4 s hb).1)
            go_roundw
            case rel => first | exact ⟨j + 1, by omega, by go_num, _, _, _, _, _, HP9.out, HK9.out⟩ | (repeat apply Exists.intro; exact ⟨⟨j + 1, by omega, by go_num, _, _, _, _, _, HP9.out, HK9.out⟩, rfl⟩)
            case measure => simp [intOf]; omega
    · obtain rfl : j = len0 := by omega
      have HV := hid (show t.vAt (mp4.at_ 3 0 1) = s.vAt (mp4.at_ 3 0 1) from by
        rw [(lock0 s HP.out.ls).1, (lock0 s HP.out.ls).2.2.1, (lock0 t HP.out.lt).2.2.1]
        exact HP.out.e5)
      have HLK := hid (fun (x : World) => Lock_any mp4 0 1 x)
      have HP1 := hid (fun (x : Later wr) => Peek_at (mp4.at_ 3 0 1) x.v _ b vw s (HK.out.later x.below).m1)
      have HP2 := hid (fun (x : Later wr) => Peek_at (mp4.at_ 3 0 1) x.v _ d vd t (HK.out.later x.below).m2)
      rw [HV.out] at HP2
      generalize mp4.at_ 3 0 1 = p at *
      generalize s.vAt p = y at *
      obtain ⟨m0, m1, m2, m3, m4, _⟩ := HK.out.map.facts
      have hqz := HK.out.map.lt
      go_upto_region 22 with fail
      refine wp_region_later (by kernel_rfl) (by kernel_rfl) ?_
      repeat (go_big_quiet_step (first | (go_at_call 21; with_reducible exact later_call (told8_any _)) | (go_at_call 27; with_reducible exact later_call (HLK.out _)) | (go_at_call 26; first | (with_reducible exact later_same (HP1.out _)) | (with_reducible exact later_same (HP2.out _)))))
      refine wpQuiet_nil ?_
      rintro _ ⟨x, rfl⟩
      go_wp2
      go_ret
      exact ⟨rfl, bthen HK.out.below x.below⟩

end Go.Proofs.Ytpphllijbbcdcaa
