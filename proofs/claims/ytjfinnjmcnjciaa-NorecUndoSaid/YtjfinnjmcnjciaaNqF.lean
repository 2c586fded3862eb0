/-
  An attempt alone: what its picks want of the words and of itself. An argument that is a plan (a slice of two ints and an int64), opened. A plan is built: each op of the argument, in bounds. An attempt alone, as the laws hold it: its map, the memory, the run. An attempt alone begins. An attempt alone: how it stands between picks; the words where it begins.
-/
import Derived.Test.YtjfinnjmcnjciaaNqJ
import Derived.Test.YtjfinnjmcnjciaaRows
import Derived.WalkKit
import Derived.ProofKit
import Derived.OpenShut
import Derived.ShutString
import Derived.ChangeOld
import Derived.Below
import Derived.Deep.Slices
import Derived.Deep.Fields
import Derived.ChangeSame
namespace Go.Proofs.Ytjfinnjmcnjciaa
open Go.RowKit

theorem doneR_rl {u : RU} (h : u.read.length ≤ u.i) : (doneR u).read.length ≤ (doneR u).i := by
  by_cases hp : u.plan.length < u.i
  · rw [doneR_fin hp]; exact h
  · rw [doneR_on hp]
    show (if 0 < u.i ∧ (u.plan.getD (u.i - 1) (false, 0, 0)).1 = false then u.read ++ [((u.plan.getD (u.i - 1) (false, 0, 0)).2.1, u.x.val)] else u.read).length ≤ u.i + 1
    split
    · rw [List.length_append, List.length_singleton]; omega
    · omega
theorem tookC_rl {u : RU} (h : u.read.length ≤ u.i) (c : Int) : (tookC u c).read.length ≤ (tookC u c).i := by
  unfold tookC
  split
  · exact doneR_rl h
  · split <;> exact h
theorem askR_rl {u : RU} (h : u.read.length ≤ u.i) : (askR u).read.length ≤ (askR u).i := tookC_rl (u := { u with x := (askC u).2, busy := decide ((askC u).1 = 0) }) h _
theorem asksR_rl : ∀ (n : Nat) {u : RU}, u.read.length ≤ u.i → (asksR n u).read.length ≤ (asksR n u).i
  | 0, _, h => h
  | n + 1, u, h => by
    unfold asksR
    split
    · exact asksR_rl n (askR_rl h)
    · exact h
theorem nextR_rl {s : MS} {u : RU} (h : u.read.length ≤ u.i) : (nextR s u).1.read.length ≤ (nextR s u).1.i := by
  unfold nextR
  split
  · exact h
  · split
    · exact asksR_rl 9 h
    · rw [stepR_took]; exact tookC_rl (u := { asksR 9 u with x := (txStep s (asksR 9 u).x).2.1 }) (asksR_rl 9 h) _

variable {ck wv : Int} {wt : List Wd} {s : MS} {u : RU}
theorem SX.m {x : TX} (h : SX wt wv s x) : x.m = mT := by cases h <;> rfl
/-- What a step wants of the words and of where it stands. -/
structure StX (s : MS) (x : TX) : Prop where
  zs : x.m.size ≤ (s.zs.length : Int)
  all : ∀ p ∈ x.parts, isPart p
  left : ∀ p ps, x.parts = p :: ps → leftP x p = true
  few : x.parts.length ≤ 700
theorem st_of {x : TX} (q : Int) (qs : List Int) (hz : x.m = mT) (hs : s.zs.length = 34) (hp : x.parts = q :: qs) (ha : (q :: qs).all isPartB = true) (hl : leftP x q = true) (hf : (q :: qs).length ≤ 700) : StX s x := by
  refine ⟨by rw [hz, hs, mT_size]; decide, by rw [hp]; exact isParts_of ha, fun p ps h => ?_, by rw [hp]; exact hf⟩
  rw [hp] at h; cases h; exact hl
theorem SX.stepOk {x : TX} (h : SX wt wv s x) (hj : x.job ≠ 0) : StX s x := by
  cases h with
  | idle => exact absurd rfl hj
  | r0 rs ws k ca ma va d g n ok lt hd mem => exact st_of 4 [5, 3, 12] rfl mem.len rfl rfl rfl (by decide)
  | r1 rs ws k ca ma va d g n ok lt hd mem => exact st_of 5 [3, 12] rfl mem.len rfl rfl rfl (by decide)
  | r2 rs ws k ca ma va d g n ok lt hd hw mem => subst hw; exact st_of 3 [12] rfl mem.len rfl rfl rfl (by decide)
  | c0 rs k ca ma va a g n rl mem => exact st_of 6 [3, 15, 11, 16] rfl mem.len rfl rfl rfl (by decide)
  | c1 rs p ws k ca ma va a g n ok rl mem => exact st_of 6 [14, 7, 3, 15, 8, 9, 11, 16] rfl mem.len rfl rfl rfl (by decide)
  | cl rs p ws k ca ma va a g n ok rl mem => exact st_of 7 [3, 15, 8, 9, 11, 16] rfl mem.len rfl rfl rfl (by decide)
  | w0 rs k ca ma va a g n rl hw mem => subst hw; exact st_of 3 [15, 11, 16] rfl mem.len rfl rfl rfl (by decide)
  | w1 rs p ws k ca va a g n ok rl hw mem => subst hw; exact st_of 3 [15, 8, 9, 11, 16] rfl mem.len rfl rfl rfl (by decide)
  | wr rs ws i k ca va a g n ok rl lt mem => exact st_of 8 [9, 11, 16] rfl mem.len rfl rfl (by show decide (i < ws.length) = true; exact decide_eq_true lt) (by decide)
  | rl rs ws k ca va a g n ok rl ne mem => exact st_of 9 [11, 16] rfl mem.len rfl rfl rfl (by decide)
  | e0 rs k ca ma va a g n rl mem => exact st_of 11 [16] rfl mem.len rfl rfl rfl (by decide)
  | e1 rs ws k ca va a g n ok rl ne mem => exact st_of 11 [16] rfl mem.len rfl rfl rfl (by decide)
theorem UX.stepOk {c : Int} {x : TX} (h : UX c wv s x) : StX s x := by
  cases h with
  | a rs ws k wt va a g n mem => exact st_of 10 [11] rfl mem.len rfl rfl rfl (by decide)
  | b rs ws k wt va a g n mem => exact st_of 11 [] rfl mem.len rfl rfl rfl (by decide)
theorem SA.askOk (h : SA ck wt wv s u) (hb : u.busy = false) (hr : u.read.length ≤ u.i) : AskOk u := by
  have hj : u.x.job = 0 := by
    rcases h.bz with ⟨hb', _⟩ | ⟨_, hj⟩
    · rw [hb] at hb'; cases hb'
    · exact hj
  have hm : u.x.m = mT := h.sx.m
  have i2 := h.i2
  have pl := h.pl.1
  have at4 : ∀ o, 1 ≤ u.i → u.i ≤ u.plan.length → u.plan.getD (u.i - 1) (false, 0, 0) = o → o.2.1 < 4 := fun o h1 h2 ho => by
    have hlt : u.i - 1 < u.plan.length := by omega
    rw [List.getD_eq_getElem?_getD, List.getElem?_eq_getElem hlt] at ho
    have ho : u.plan[u.i - 1] = o := ho
    exact h.pl.2 o (by rw [← ho]; exact List.getElem_mem hlt)
  exact ⟨hm, at4, by omega, by omega⟩
theorem RU.new_askOk (p : Pl) : AskOk (RU.new 1 ck p) := ⟨rfl, (fun o h => absurd h (by show ¬ 1 ≤ 0; omega)), by show 0 < 100; omega, by show 0 < 100; omega⟩
theorem RU.new_ask (p : Pl) : (askR (RU.new 1 ck p)).busy = true := rfl
theorem SA.stOk (h : SA ck wt wv s u) (hb : u.busy = true) (hr : u.read.length ≤ u.i) : StOk s u := by
  have hbz := h.bz.resolve_right (fun hh => by rw [hb] at hh; cases hh.1)
  have i2 := h.i2
  have pl := h.pl.1
  have hj : u.x.job ≠ 0 := by rcases hbz.2 with ⟨j, _⟩ | ⟨j, _⟩ <;> rw [j] <;> decide
  have h1 := h.sx.stepOk hj
  exact ⟨h1.zs, h1.all, h1.left, h1.few, by omega, by omega⟩
theorem UX.stOk {c : Int} (h : UX c wv s u.x) (hi : u.i < 100) (hr : u.read.length ≤ u.i) : StOk s u := by
  have h1 := h.stepOk
  exact ⟨h1.zs, h1.all, h1.left, h1.few, by omega, hi⟩
/-- What the asks of a pick want, alone. -/
theorem SA.pick (h : SA ck wt wv s u) (hr : u.read.length ≤ u.i) : ∃ J : RU → Prop, J u ∧ (∀ v, J v → v.busy = false → v.fin = 0 → AskOk v ∧ J (askR v)) ∧ ((asksR 9 u).busy = true ∨ (asksR 9 u).fin ≠ 0) ∧ ((asksR 9 u).fin = 0 → StOk s (asksR 9 u)) := by
  refine ⟨fun v => (SA ck wt wv s v ∧ v.read.length ≤ v.i) ∨ v.busy = true, .inl ⟨h, hr⟩, fun v hv hb hf => ?_, ?_, ?_⟩
  · rcases hv with ⟨hv, hr⟩ | hv
    · refine ⟨hv.askOk hb hr, ?_⟩
      obtain ⟨v', e, h', _, _⟩ := hv.ask hb
      exact .inl ⟨by rw [e]; exact h', askR_rl hr⟩
    · rw [hb] at hv; cases hv
  · cases hb : u.busy with
    | true => rw [asksR_stop (.inl hb)]; exact .inl hb
    | false =>
      obtain ⟨v, e, hv, hvb, _, _⟩ := SA.asks 9 u h hb (by have := h.i1; have := h.pl.1; omega)
      rw [e]; exact .inl hvb
  · intro _
    cases hb : u.busy with
    | true => rw [asksR_stop (.inl hb)]; exact h.stOk hb hr
    | false =>
      have h9 := asksR_rl 9 hr
      obtain ⟨v, e, hv, hvb, _, _⟩ := SA.asks 9 u h hb (by have := h.i1; have := h.pl.1; omega)
      rw [e] at h9 ⊢
      exact hv.stOk hvb h9
theorem UX.pick {c : Int} (h : UX c wv s u.x) (fin : u.fin = 0) (busy : u.busy = true) (hi : u.i < 100) (hr : u.read.length ≤ u.i) : ∃ J : RU → Prop, J u ∧ (∀ v, J v → v.busy = false → v.fin = 0 → AskOk v ∧ J (askR v)) ∧ ((asksR 9 u).busy = true ∨ (asksR 9 u).fin ≠ 0) ∧ ((asksR 9 u).fin = 0 → StOk s (asksR 9 u)) := by
  refine ⟨fun v => v.busy = true, busy, fun v hv hb _ => (by have hv : v.busy = true := hv; rw [hb] at hv; cases hv), by rw [asksR_stop (.inl busy)]; exact .inl busy, fun _ => by rw [asksR_stop (.inl busy)]; exact h.stOk hi hr⟩
theorem RU.new_pick (p : Pl) (mem : Mem0 s 0 wv zeroD 0) : ∃ J : RU → Prop, J (RU.new 1 ck p) ∧ (∀ v, J v → v.busy = false → v.fin = 0 → AskOk v ∧ J (askR v)) ∧ ((asksR 9 (RU.new 1 ck p)).busy = true ∨ (asksR 9 (RU.new 1 ck p)).fin ≠ 0) ∧ ((asksR 9 (RU.new 1 ck p)).fin = 0 → StOk s (asksR 9 (RU.new 1 ck p))) := by
  have e : asksR 9 (RU.new 1 ck p) = askR (RU.new 1 ck p) := (asksR_more rfl rfl).trans (asksR_stop (.inl rfl))
  refine ⟨fun v => v = RU.new 1 ck p ∨ v.busy = true, .inl rfl, fun v hv hb _ => ?_, by rw [e]; exact .inl rfl, fun _ => ?_⟩
  · rcases hv with rfl | hv
    · exact ⟨RU.new_askOk p, .inr rfl⟩
    · rw [hb] at hv; cases hv
  · rw [e]
    have h1 : StX s BT := st_of 0 [13] rfl mem.len rfl rfl rfl (by decide)
    exact ⟨h1.zs, h1.all, h1.left, h1.few, (by show 0 < 100; omega), (by show 0 < 100; omega)⟩

end Go.Proofs.Ytjfinnjmcnjciaa

namespace Go.Proofs.Ytjfinnjmcnjciaa
open Go.ChangeShapes Go.WideShapes Go.ChangeAt Go.RowKit Go.Deep
set_option linter.unusedVariables false

abbrev Tq3 := Int × Int × Int
/-- Three cells that are an op. -/
structure TqAt (w : World) (b o : Nat) (p : Tq3) : Prop where
  c0 : w.cell? ⟨b, o, none⟩ = some (.int .i64 p.1)
  c1 : w.cell? ⟨b, o + 1, none⟩ = some (.int .i64 p.2.1)
  c2 : w.cell? ⟨b, o + 2, none⟩ = some (.int .i64 p.2.2)
theorem TqAt.keep {w w' : World} {b o : Nat} {p : Tq3} (h : TqAt w b o p) (hb : w'.heap[b]? = w.heap[b]?) : TqAt w' b o p := by
  have e : ∀ j, w'.cell? ⟨b, j, none⟩ = w.cell? ⟨b, j, none⟩ := fun j => World.cell?_of_block (a := ⟨b, j, none⟩) hb
  exact ⟨(e _).trans h.c0, (e _).trans h.c1, (e _).trans h.c2⟩
/-- A slice that reads as these ops: nil, or a row of cells. -/
structure TqRow (w : World) (a : Option Addr) (len : Nat) (ps : List Tq3) : Prop where
  cnt : ps.length = len
  row : len = 0 ∨ ∃ b off, a = some ⟨b, off, none⟩ ∧ b < w.heap.size ∧ ∀ k p, ps[k]? = some p → TqAt w b (off + k * 3) p
theorem TqRow.below {w w' : World} {a : Option Addr} {len : Nat} {ps : List Tq3} (h : TqRow w a len ps) (hb : Below w.heap.size w w') : TqRow w' a len ps := by
  refine ⟨h.cnt, ?_⟩
  rcases h.row with h' | ⟨b, off, rfl, hlt, hc⟩
  · exact .inl h'
  · exact .inr ⟨b, off, rfl, Nat.lt_of_lt_of_le hlt hb.size, fun k i hk => (hc k i hk).keep (hb.block _ hlt)⟩
theorem TqRow.at {w : World} {a : Option Addr} {len : Nat} {ps : List Tq3} (h : TqRow w a len ps) (hl : 0 < len) : ∃ b off, a = some ⟨b, off, none⟩ ∧ b < w.heap.size ∧ ∀ k p, ps[k]? = some p → TqAt w b (off + k * 3) p := by
  rcases h.row with h' | h'
  · omega
  · exact h'
theorem tq_at {ps : List Tq3} {k : Nat} (h : k < ps.length) : ∃ p, ps[k]? = some p := ⟨_, List.getElem?_eq_getElem h⟩

set_option maxRecDepth 100000 in
theorem open_plan {H : Type} {enc : TypeId × Value → H} {W : World} {base : Nat} {sp : Nat → Bool} {held : Bool} {v : Value} {d : DataW H} {p : List MemPlace} {b0 : Nat} (hv : Value.okWide Try.prog W .any b0 29 v)
    (h : DataW.Trod enc Try.prog W base sp held 29 v d p) : ∃ a len cap ws, v = .slice a len cap ∧ TqRow W a len ws := by
  obtain ⟨a, len, cap, rfl⟩ := okWide_slice Try.underlying29 hv
  obtain ⟨fuel, hf⟩ := h
  have hce : Try.prog.cellsOf 40 = 3 := by kernel_rfl
  have hc1 : Try.prog.cellsOf 3 = 1 := by kernel_rfl
  have hc2 : Try.prog.cellsOf 2 = 1 := by kernel_rfl
  rcases open_slice Try.underlying29 hf with ⟨hcs, _⟩ | ⟨x, l, c, m, n, D, Pl, hcs, _, hl, hm, hmm, _, hel⟩
  · simp [Value.cells] at hcs
    obtain ⟨rfl, rfl, rfl⟩ := hcs
    exact ⟨none, 0, 0, [], rfl, rfl, .inl rfl⟩
  · simp [Value.cells] at hcs
    obtain ⟨rfl, rfl, rfl⟩ := hcs
    have hlm : len ≤ m := by rw [hmm]; split <;> omega
    have key : ∀ i, i < len → ∃ r : Tq3, W.cell? (x.add (i * 3)) = some (.int .i64 r.1) ∧ W.cell? (x.add (i * 3 + 1)) = some (.int .i64 r.2.1) ∧ W.cell? (x.add (i * 3 + 2)) = some (.int .i64 r.2.2) := by
      intro i hi
      obtain ⟨cs', hc, ht'⟩ := hel i (by omega)
      rw [hce] at hc
      obtain ⟨ys, n', _, _, hlen, hyl, hfl⟩ := DataW.trod_struct Try.underlying40 ht'
      obtain ⟨_, hcl, hat⟩ := World.cells?_some hc
      match cs', hcl, hat, hfl with
      | [e0, e1, e2], _, hat, hfl =>
        match ys, hyl, hfl with
        | [y0, y1, y2], _, hfl =>
          have g0 := hfl 0 _ rfl
          have g1 := hfl 1 _ rfl
          have g2 := hfl 2 _ rfl
          change DataW.trod enc Try.prog W base sp held n' 3 ([e0, e1, e2].take (Try.prog.cellsOf 3)) = some y0 at g0
          change DataW.trod enc Try.prog W base sp held n' 3 ([e1, e2].take (Try.prog.cellsOf 3)) = some y1 at g1
          change DataW.trod enc Try.prog W base sp held n' 2 ([e2].take (Try.prog.cellsOf 2)) = some y2 at g2
          rw [hc1] at g0
          rw [hc1] at g1
          rw [hc2] at g2
          obtain ⟨z0, q0, _, w0⟩ := DataW.trod_int Try.underlying3 g0
          obtain ⟨z1, q1, _, w1⟩ := DataW.trod_int Try.underlying3 g1
          obtain ⟨z2, q2, _, w2⟩ := DataW.trod_int Try.underlying2 g2
          have p0 : e0 = .int .i64 z0 := by simpa using q0
          have p1 : e1 = .int .i64 z1 := by simpa using q1
          have p2 : e2 = .int .i64 z2 := by simpa using q2
          subst p0 p1 p2
          have ad1 : x.add (i * 3 + 1) = (x.add (i * 3)).add 1 := by rw [add_add]
          have ad2 : x.add (i * 3 + 2) = (x.add (i * 3)).add 2 := by rw [add_add]
          have ad0 : x.add (i * 3) = (x.add (i * 3)).add 0 := by rw [add_add, Nat.add_zero]
          refine ⟨(z0, z1, z2), ?_, ?_, ?_⟩
          · rw [ad0, hat 0 (by omega)]; rfl
          · rw [ad1, hat 1 (by omega)]; rfl
          · rw [ad2, hat 2 (by omega)]; rfl
    have list : ∀ n, n ≤ len → ∃ rs : List Tq3, rs.length = n ∧ ∀ k r, rs[k]? = some r → W.cell? (x.add (k * 3)) = some (.int .i64 r.1) ∧ W.cell? (x.add (k * 3 + 1)) = some (.int .i64 r.2.1) ∧ W.cell? (x.add (k * 3 + 2)) = some (.int .i64 r.2.2) := by
      intro n
      induction n with
      | zero => intro _; exact ⟨[], rfl, fun k r h => by simp at h⟩
      | succ n ih =>
        intro hn
        obtain ⟨rs, h1, h3⟩ := ih (by omega)
        obtain ⟨r, hr⟩ := key n (by omega)
        refine ⟨rs ++ [r], by simp [h1], fun k q hq => ?_⟩
        by_cases hk : k < rs.length
        · rw [List.getElem?_append_left hk] at hq
          exact h3 k q hq
        · have hkl := (List.getElem?_eq_some_iff.1 hq).1
          simp at hkl
          have hkn : k = n := by omega
          subst hkn
          rw [List.getElem?_append_right (by omega)] at hq
          simp [h1] at hq
          subst hq
          exact hr
    obtain ⟨rs, h1, h3⟩ := list len (Nat.le_refl _)
    refine ⟨some x, len, cap, rs, rfl, h1, ?_⟩
    by_cases h0 : len = 0
    · exact .inl h0
    · obtain ⟨b, off, spn⟩ := x
      have hr0 : rs[0]? = some rs[0] := List.getElem?_eq_getElem (by omega)
      have hz := (h3 0 _ hr0).1
      have hsp : spn = none := by
        cases spn with
        | none => rfl
        | some q =>
          exfalso
          rw [Nat.zero_mul, add_zero] at hz
          simp only [World.cell?] at hz
          split at hz <;> simp at hz
      subst hsp
      rw [Nat.zero_mul, add_zero] at hz
      refine .inr ⟨b, off, rfl, World.block_lt_of_cell? W _ hz, fun k r hk => ?_⟩
      obtain ⟨g0, g1, g2⟩ := h3 k r hk
      rw [add_at] at g0 g1 g2
      exact ⟨g0, by rw [Nat.add_assoc]; exact g1, by rw [Nat.add_assoc]; exact g2⟩

end Go.Proofs.Ytjfinnjmcnjciaa

namespace Go.Proofs.Ytjfinnjmcnjciaa
open Go.RowKit
attribute [local go_sem] Later.cell Later.frozen

def kF (k : Int) : Int := wrap64 ((IntKind.u64.wrap k).tmod 2)
def aF (a : Int) : Int := wrap64 ((IntKind.u64.wrap a).tmod 4)
theorem u64_pos (k : Int) : 0 ≤ IntKind.u64.wrap k := by
  unfold IntKind.wrap
  simp only [IntKind.signed, Bool.false_eq_true, if_false]
  exact Int.emod_nonneg _ (by decide)
theorem mod_in (k : Int) (n : Nat) (hn : 0 < n) (hb : n ≤ 1000) : ∃ m : Nat, m < n ∧ wrap64 ((IntKind.u64.wrap k).tmod (n : Int)) = (m : Int) := by
  have h0 := u64_pos k
  rw [Int.tmod_eq_emod_of_nonneg h0]
  have h1 := Int.emod_nonneg (IntKind.u64.wrap k) (show (n : Int) ≠ 0 by omega)
  have h2 := Int.emod_lt_of_pos (IntKind.u64.wrap k) (show (0 : Int) < (n : Int) by omega)
  refine ⟨((IntKind.u64.wrap k) % (n : Int)).toNat, by omega, ?_⟩
  unfold wrap64
  omega
theorem kF_in (k : Int) : kF k = 0 ∨ kF k = 1 := by
  obtain ⟨m, h1, h2⟩ := mod_in k 2 (by decide) (by decide)
  have : kF k = (m : Int) := h2
  omega
theorem aF_in (a : Int) : 0 ≤ aF a ∧ aF a < 4 := by
  obtain ⟨m, h1, h2⟩ := mod_in a 4 (by decide) (by decide)
  have : aF a = (m : Int) := h2
  omega
def op3 (p : Tq3) : Op3 := (decide (kF p.1 = 1), (aF p.2.1).toNat, p.2.2)
def planF (ps : List Tq3) : Pl := ps.map op3
theorem op3_kind (p : Tq3) : kindI (op3 p) = kF p.1 := by
  unfold kindI op3
  rcases kF_in p.1 with h | h <;> rw [h] <;> rfl
theorem op3_at (p : Tq3) : ((op3 p).2.1 : Int) = aF p.2.1 := by
  have := aF_in p.2.1
  unfold op3
  simp
  omega
theorem planF_len (ps : List Tq3) : (planF ps).length = ps.length := by simp [planF]
theorem planF_at (ps : List Tq3) : ∀ o ∈ planF ps, o.2.1 < 4 := fun o ho => by
  obtain ⟨p, _, rfl⟩ := List.mem_map.1 ho
  have h1 := op3_at p
  have h2 := aF_in p.2.1
  omega
def opCells (pl : Pl) : List Value := pl.flatMap fun o => [.int .i64 (kindI o), .int .i64 (o.2.1 : Int), .int .i64 o.2.2]
theorem opCells_snoc (pl : Pl) (o : Op3) : opCells (pl ++ [o]) = opCells pl ++ [.int .i64 (kindI o), .int .i64 (o.2.1 : Int), .int .i64 o.2.2] := by simp [opCells]
theorem opCells_at : ∀ (pl : Pl) (k : Nat) (o : Op3), (pl : List Op3)[k]? = some o → (opCells pl)[k * 3]? = some (.int .i64 (kindI o)) ∧ (opCells pl)[k * 3 + 1]? = some (.int .i64 (o.2.1 : Int)) ∧ (opCells pl)[k * 3 + 2]? = some (.int .i64 o.2.2)
  | [], k, o, h => by simp at h
  | q :: pl, 0, o, h => by
    simp at h
    subst h
    exact ⟨rfl, rfl, rfl⟩
  | q :: pl, k + 1, o, h => by
    have := opCells_at pl k o (by simpa using h)
    have e : opCells (q :: pl) = .int .i64 (kindI q) :: .int .i64 (q.2.1 : Int) :: .int .i64 q.2.2 :: opCells pl := rfl
    rw [e, show (k + 1) * 3 = k * 3 + 1 + 1 + 1 by omega]
    simpa using this
theorem opCells_len (pl : Pl) : (opCells pl).length = pl.length * 3 := by
  induction pl with
  | nil => rfl
  | cons p l ih => simp only [opCells, List.flatMap_cons, List.length_append, List.length_cons, List.length_nil] at ih ⊢; omega
/-- A plan of one's own. -/
def PO (w : World) (B : Nat) (v : Value) (pl : Pl) : Prop := w.ownsRow B 40 3 v pl.length (opCells pl)
theorem PO.nil (w : World) (B : Nat) : PO w B (.slice none 0 0) [] := World.ownsRow_nil _ _ _ _
theorem PO.old {w : World} {B : Nat} {v : Value} {pl : Pl} (h : PO w B v pl) {g : Nat} (hg : v.ownBlock = some g) : B ≤ g ∧ g < w.heap.size := World.ownsRow.lt h g hg
theorem PO.kept {S : Nat → Prop} {w w' : World} {B : Nat} {v : Value} {pl : Pl} (h : PO w B v pl) (hw : Wrote S w w') (hs : ∀ k, v.ownBlock = some k → ¬ S k) : PO w' B v pl := by
  refine ⟨h.1, ?_⟩
  rcases h.2 with h' | ⟨g, cap, cur, h1, h2, h3, h4⟩
  · exact .inl h'
  · refine .inr ⟨g, cap, cur, h1, h2, ?_, h4⟩
    rw [hw.block g (lt_of_block h3) (hs g (by simp [h1, Value.ownBlock]))]
    exact h3
theorem PO.below {w w' : World} {B : Nat} {v : Value} {pl : Pl} (h : PO w B v pl) (hb : Below w.heap.size w w') : PO w' B v pl := h.kept (Wrote.of_below hb (fun _ => False)) (fun _ _ h => h)
theorem PO.form {w : World} {B : Nat} {v : Value} {pl : Pl} (h : PO w B v pl) : ∃ a c, v = .slice a pl.length c ∧ PlRow w a pl.length pl ∧ (∀ x, a = some x → 0 < pl.length → v.ownBlock = some x.block) := by
  rcases h.2 with ⟨h1, h0⟩ | ⟨g, cap, cur, h1, h2, h3, h4, h5, h6⟩
  · exact ⟨none, 0, by rw [h1, h0], ⟨rfl, .inl h0⟩, fun x hx => by cases hx⟩
  · subst h1
    refine ⟨some ⟨g, 0, none⟩, cap, rfl, ⟨rfl, .inr ⟨g, 0, rfl, lt_of_block h3, fun k p hk => ?_⟩⟩, fun x hx _ => by simp only [Option.some.injEq] at hx; subst hx; rfl⟩
    have hkl := (List.getElem?_eq_some_iff.1 hk).1
    have h7 := opCells_at pl k p hk
    refine ⟨?_, ?_, ?_⟩
    · rw [Nat.zero_add, World.ownsRow.cellAt h (k * 3) (by omega)]; exact h7.1
    · rw [Nat.zero_add, World.ownsRow.cellAt h (k * 3 + 1) (by omega)]; exact h7.2.1
    · rw [Nat.zero_add, World.ownsRow.cellAt h (k * 3 + 2) (by omega)]; exact h7.2.2
theorem infoOp : (Try.prog.info? 40).map (fun i => (i.zero, i.size, i.bytes)) = some (some (.agg #[.int .i64 0, .int .i64 0, .int .i64 0]), 3, 24) := by kernel_rfl
theorem append_op_run {W : World} {v : Value} {pl : Pl} {B : Nat} (ty : TypeId) (hown : PO W B v pl) (hB : B ≤ W.heap.size) (c0 c1 c2 : Int) (o : Op3) (h0 : kindI o = c0) (h1 : (o.2.1 : Int) = c1) (h2 : o.2.2 = c2) (h6 : pl.length ≤ 900) :
    ∃ v' w', (Builtin.append_ #[37, 37] ty #[v, .slice (some ⟨W.heap.size, 0, none⟩) 1 1]).run Try.prog (W.alloc (.cells #[.int .i64 c0, .int .i64 c1, .int .i64 c2] 40)) = .ok v' w' ∧ PO w' B v' (pl ++ [o]) ∧ Below B W w' := by
  obtain ⟨iI, hi, hz0, hz1, hz2⟩ := info_parts infoOp
  subst h0 h1 h2
  have hb := bnew (bid W) (.cells #[.int .i64 (kindI o), .int .i64 (o.2.1 : Int), .int .i64 o.2.2] 40)
  obtain ⟨v', w', hr, h2, h3, h4, h5⟩ := run_append_own_at (P := Try.prog) (W.alloc (.cells #[.int .i64 (kindI o), .int .i64 (o.2.1 : Int), .int .i64 o.2.2] 40)) B 37 ty 40 iI (.agg #[.int .i64 0, .int .i64 0, .int .i64 0]) 3 24 Try.underlying37 hi hz0 hz1 hz2 rfl (by decide) v pl.length (opCells pl) (hown.below hb) ⟨W.heap.size, 0, none⟩ 1 1 [.int .i64 (kindI o), .int .i64 (o.2.1 : Int), .int .i64 o.2.2] (by simp)
    (fun j u hu => by
      match j, hu with
      | 0, hu => simp at hu; subst hu; exact cell_of_blk (heap_alloc_new _ _) 0
      | 1, hu => simp at hu; subst hu; rw [add_at]; exact cell_of_blk (heap_alloc_new _ _) 1
      | 2, hu => simp at hu; subst hu; rw [add_at]; exact cell_of_blk (heap_alloc_new _ _) 2)
    (fun u hu => by simp at hu; rcases hu with rfl | rfl | rfl <;> rfl) (by unfold maxLen; omega) (by omega) (Nat.le_trans hB hb.size)
  refine ⟨v', w', hr, ?_, ?_⟩
  · unfold PO
    rw [opCells_snoc, List.length_append, List.length_singleton]
    exact h2
  · have hw : Wrote (fun b => v.ownBlock = some b) W w' := (Wrote.of_below hb _).trans ((Wrote.refl _ _).grown h3 fun j hj _ => hj)
    exact hw.below hB fun k hk e => by have := (hown.old e).1; omega
theorem append_execO {o : Oper} {a : Act} {W w' : World} {v u v' : Value} (s x : Operand) (ho : o.op = .call { callee := .builtin .append, args := #[s, x], argTypes := #[37, 37] }) (hs : a.eval s = v) (hx : a.eval x = u)
    (hr : (Builtin.append_ #[37, 37] o.type #[v, u]).run Try.prog W = .ok v' w') : (execOp a.eval o).run Try.prog W = .ok (.value v') w' := by
  unfold execOp
  simp only [ho, resolve, invoke, builtin, Sem.run_bind, Sem.run_pure, Result.andThen_ok, List.map_toArray, List.map_cons, List.map_nil, hs, hx, hr]
theorem gUpon_appendO {o : Oper} {a : Act} {C : World → Prop} {W w' : World} {v u v' : Value} (s x : Operand) (ho : o.op = .call { callee := .builtin .append, args := #[s, x], argTypes := #[37, 37] }) (hs : a.eval s = v) (hx : a.eval x = u)
    (hr : (Builtin.append_ #[37, 37] o.type #[v, u]).run Try.prog W = .ok v' w') (hc : C w') : gUpon Try.prog C W v' ((execOp a.eval o).run Try.prog W) := by
  rw [append_execO s x ho hs hx hr]; exact ⟨rfl, hc⟩
/-- The worlds of the append: exactly these. -/
def PbW (w1 w2 w3 : World) (L : Nat → Bool) (W : World) : Prop := W = bif L 24 then w3 else bif L 23 then w2 else w1
theorem PbW.early {w1 w2 w3 : World} {L : Nat → Bool} {W : World} (h : PbW w1 w2 w3 L W) (h23 : L 23 = false) (h24 : L 24 = false) : W = w1 := by
  unfold PbW at h; rw [h24, h23] at h; exact h
def PbCells (g o : Nat) (p : Tq3) (W : World) : Prop := W.cell? ⟨g, o, none⟩ = some (.int .i64 p.1) ∧ W.cell? ⟨g, o + 1, none⟩ = some (.int .i64 p.2.1) ∧ W.cell? ⟨g, o + 2, none⟩ = some (.int .i64 p.2.2)

end Go.Proofs.Ytjfinnjmcnjciaa

namespace Go.Proofs.Ytjfinnjmcnjciaa
open Go.RowKit
attribute [local go_sem] Later.cell Later.frozen

structure LwS (w : World) (g1 ub mb : Nat) (vw : Value) (u : RU) (s : MS) (N : Nat) (W : World) : Prop where
  ex : ∃ ρ, RX W ρ 0 ub u w.heap.size mb vw s N ∧ (∀ k, k < w.heap.size → ρ k = 99) ∧ ρ g1 = 0
  map : W.heap[g1]? = some (.cells #[.int .i64 3, .int .i64 1, .int .i64 3, .int .i64 0, .int .i64 4] 31 (0, 0))
  nm : ¬ MemS mb vw g1
  below : Below w.heap.size w W
variable {w W W2 : World} {g1 ub mb : Nat} {vw : Value} {u : RU} {s : MS} {N : Nat}
theorem LwS.later (h : LwS w g1 ub mb vw u s N W) (hb : Below W.heap.size W W2) : LwS w g1 ub mb vw u s N W2 := by
  obtain ⟨ρ, hx, ho, hg⟩ := h.ex
  exact ⟨⟨ρ, hx.below hb, ho, hg⟩, (hb.block _ (lt_of_block h.map)).trans h.map, h.nm, bthen h.below hb⟩
theorem LwS.mono (h : LwS w g1 ub mb vw u s N W) {M : Nat} (hm : N ≤ M) : LwS w g1 ub mb vw u s M W := by
  obtain ⟨ρ, hx, ho, hg⟩ := h.ex
  exact ⟨⟨ρ, hx.mono hm, ho, hg⟩, h.map, h.nm, h.below⟩
theorem RX.m0 {ρ : Nat → Nat} {B r : Nat} (h : RX W ρ r ub u B mb vw s N) : ∀ k, MemS mb vw k → ρ k = 0 := by
  obtain ⟨p, l, m, _, hx, _, _, _⟩ := h; exact hx.m0
theorem LwS.turn {ρ ρ' : Nat → Nat} {u' : RU} {s' : MS} {M : Nat} (h : LwS w g1 ub mb vw u s N W) (ho : ∀ k, k < w.heap.size → ρ k = 99) (hg1 : ρ g1 = 0) (hm0 : ∀ k, MemS mb vw k → ρ k = 0) (hx : RX W2 ρ' 0 ub u' w.heap.size mb vw s' M) (hg : Gr ρ ρ' W) (hw : Wrote (RS ρ 0 mb vw) W W2) : LwS w g1 ub mb vw u' s' M W2 := by
  refine ⟨⟨ρ', hx, fun k hk => (hg k (Nat.lt_of_lt_of_le hk h.below.size)).trans (ho k hk), (hg _ (lt_of_block h.map)).trans hg1⟩, (hw.block _ (lt_of_block h.map) fun hs => ?_).trans h.map, h.nm, h.below.trans (hw.below h.below.size fun k hk hs => ?_)⟩
  · rcases hs with hs | hs
    · have := hs.1; omega
    · exact h.nm hs
  · have := ho k hk
    rcases hs with hs | hs
    · have := hs.2; omega
    · have := hm0 k hs; omega
theorem LwS.cells (h : LwS w g1 ub mb vw u s N W) : (W.cell? ⟨g1, 0, none⟩ = some (.int .i64 3) ∧ W.cell? ⟨g1, 1, none⟩ = some (.int .i64 1) ∧ W.cell? ⟨g1, 2, none⟩ = some (.int .i64 3) ∧ W.cell? ⟨g1, 3, none⟩ = some (.int .i64 0) ∧ W.cell? ⟨g1, 4, none⟩ = some (.int .i64 4)) ∧ (∀ i, W.frozen? ⟨g1, i, none⟩ = false) ∧ g1 < W.heap.size :=
  ⟨⟨cell_of_blk h.map 0, cell_of_blk h.map 1, cell_of_blk h.map 2, cell_of_blk h.map 3, cell_of_blk h.map 4⟩, fun i => frozen_of_blk h.map i, lt_of_block h.map⟩
/-- The run's cells: its attempt, how far it is. -/
theorem LwS.run (h : LwS w g1 ub mb vw u s N W) : (∃ xb, W.cell? ⟨ub, 0, none⟩ = some (.pointer (some ⟨xb, 0, none⟩))) ∧ W.cell? ⟨ub, 2, none⟩ = some (.int .i64 u.i) ∧ W.cell? ⟨ub, 3, none⟩ = some (.bool u.busy) ∧ W.cell? ⟨ub, 4, none⟩ = some (.int .i64 u.fin) ∧ (∀ i, W.frozen? ⟨ub, i, none⟩ = false) ∧ ub < W.heap.size := by
  obtain ⟨ρ, ⟨p, l, m, _, _, hn, _, _⟩, _, _⟩ := h.ex
  exact ⟨⟨_, hn.facts.1⟩, hn.facts.2.2.1, hn.facts.2.2.2.1, hn.facts.2.2.2.2.1, hn.facts.2.2.2.2.2.2, hn.lt⟩
/-- Its attempt, behind that pointer. -/
theorem LwS.att {xb : Nat} (h : LwS w g1 ub mb vw u s N W) (hc : W.cell? ⟨ub, 0, none⟩ = some (.pointer (some ⟨xb, 0, none⟩))) : ∃ ρ p l m, m.xb = xb ∧ RP p u.x ∧ PXM W ρ 0 xb p l w.heap.size mb vw s ∧ RnX W ρ 0 ub u m ∧ Bd p N ∧ (∀ k, k < w.heap.size → ρ k = 99) ∧ ρ g1 = 0 := by
  obtain ⟨ρ, ⟨p, l, m, hp, hx, hn, h1, h2⟩, ho, hg⟩ := h.ex
  have e := hn.facts.1.symm.trans hc
  simp only [Option.some.injEq, Value.pointer.injEq, Addr.mk.injEq, and_true] at e
  subst e
  exact ⟨ρ, p, l, m, rfl, hp, hx, hn, ⟨h1, h2⟩, ho, hg⟩
/-- A pick. -/
theorem LwS.next (h : LwS w g1 ub mb vw u s N W) (hj : ∃ J : RU → Prop, J u ∧ (∀ v, J v → v.busy = false → v.fin = 0 → AskOk v ∧ J (askR v)) ∧ ((asksR 9 u).busy = true ∨ (asksR 9 u).fin ≠ 0) ∧ ((asksR 9 u).fin = 0 → StOk s (asksR 9 u))) (hN : N ≤ 80000) :
    Calls Try.prog 18 #[.pointer (some ⟨ub, 0, none⟩), .pointer (some ⟨mb, 0, none⟩), .agg #[.int .i64 3, .int .i64 1, .int .i64 3, .int .i64 0, .int .i64 4]] W fun e W2 => e = .returned (.tuple #[]) ∧ LwS w g1 ub mb vw (nextR s u).1 (nextR s u).2 (N + 10) W2 := by
  obtain ⟨J, j1, j2, j3, j4⟩ := hj
  obtain ⟨ρ, hx, ho, hg⟩ := h.ex
  refine (rnext_any hx j1 j2 j3 j4 hN).mono ?_
  rintro e W2 ⟨rfl, ρ', g, x', k⟩
  exact ⟨rfl, h.turn ho hg hx.m0 x' g k⟩
theorem RnX.newx {ρ : Nat → Nat} {r : Nat} {m : RL} (h : RnX W ρ r ub u m) (y : TX) : RnX W ρ r ub { u with x := y } m := ⟨h.blk, h.plan, h.rd, h.u1, h.u2, h.u3, h.il, h.pl⟩
/-- A call that turns the attempt alone: what it comes to. -/
theorem LwS.tp {xb M : Nat} {q : Int × PT} {y : TX} {f : FuncId} {args : Array Value} (h : LwS w g1 ub mb vw u s N W) {ρ : Nat → Nat} {p : PT} {l : PL} {m : RL} (hm : m.xb = xb) (hx : PXM W ρ 0 xb p l w.heap.size mb vw s) (hn : RnX W ρ 0 ub u m) (ho : ∀ k, k < w.heap.size → ρ k = 99) (hg : ρ g1 = 0)
    (hc : Calls Try.prog f args W (TpRet W ρ 0 xb q)) (hr : RP q.2 y) (hd : Bd q.2 M) : Calls Try.prog f args W fun e W2 => e = .returned (.int .i64 q.1) ∧ LwS w g1 ub mb vw { u with x := y } s M W2 := by
  subst hm
  refine hc.mono ?_
  rintro e W2 ⟨rfl, ρ', l', g, x', k⟩
  have h1 := (hn.gr g).kept (S := fun i => Own ρ 0 i ∧ i < W.heap.size) (k.mono fun i hi ho => ⟨ho, hi⟩) fun i h1 h2 ho => by
    have h3 := ho.1.2
    rw [g i ho.2] at h1
    omega
  exact ⟨rfl, h.turn ho hg hx.m0 ⟨q.2, l', m, hr, hx.turn x' g k, h1.newx y, hd.1, hd.2⟩ g (k.mono fun i _ ho => .inl ⟨ho.1, by have := ho.2; omega⟩)⟩
theorem LwS.kill {xb : Nat} (h : LwS w g1 ub mb vw u s N W) (hc : W.cell? ⟨ub, 0, none⟩ = some (.pointer (some ⟨xb, 0, none⟩))) (c : Int) : Calls Try.prog 27 #[.pointer (some ⟨xb, 0, none⟩), .int .i64 c] W fun e W2 => e = .returned (.int .i64 (txKill u.x c).1) ∧ LwS w g1 ub mb vw { u with x := (txKill u.x c).2 } s (N + 1) W2 := by
  obtain ⟨ρ, p, l, m, hm, hp, hx, hn, hd, ho, hg⟩ := h.att hc
  have hk := hp.kill c
  have := LwS.tp h hm hx hn ho hg (tpKill_any c hx.px) hk.2 (hd.kill c)
  rw [hk.1] at this
  exact this
theorem LwS.read {xb : Nat} (h : LwS w g1 ub mb vw u s N W) (hc : W.cell? ⟨ub, 0, none⟩ = some (.pointer (some ⟨xb, 0, none⟩))) (a : Int) (hN : N ≤ 90000) : Calls Try.prog 31 #[.pointer (some ⟨xb, 0, none⟩), .int .i64 a] W fun e W2 => e = .returned (.int .i64 (txRead u.x a).1) ∧ LwS w g1 ub mb vw { u with x := (txRead u.x a).2 } s (N + 1) W2 := by
  obtain ⟨ρ, p, l, m, hm, hp, hx, hn, hd, ho, hg⟩ := h.att hc
  have hk := hp.read a
  have := LwS.tp h hm hx hn ho hg (tpRead_any a hx.px (by have := hd.2; omega)) hk.2 (hd.read a)
  rw [hk.1] at this
  exact this
/-- A step of the attempt. -/
theorem LwS.step {xb : Nat} (h : LwS w g1 ub mb vw u s N W) (hc : W.cell? ⟨ub, 0, none⟩ = some (.pointer (some ⟨xb, 0, none⟩))) (ok : StOk s u) (hN : N ≤ 90000) : Calls Try.prog 28 #[.pointer (some ⟨xb, 0, none⟩), .pointer (some ⟨mb, 0, none⟩)] W fun e W2 => e = .returned (.int .i64 (txStep s u.x).1) ∧ LwS w g1 ub mb vw { u with x := (txStep s u.x).2.1 } (txStep s u.x).2.2 (N + 1) W2 := by
  obtain ⟨ρ, p, l, m, hm, hp, hx, hn, hd, ho, hg⟩ := h.att hc
  subst hm
  have hac : AccOk s p := by
    cases hp
    exact ⟨ok.zs, by have := hd.1; omega, ok.all, ok.left, ok.few⟩
  have hs := hp.step s
  have hb := hd.step s hac.all
  refine (tpStep_any hx hac).mono ?_
  rintro e W2 ⟨rfl, ρ', l', g, x', k⟩
  have h1 := (hn.gr g).kept (S := fun i => OwnM ρ 0 mb vw i ∧ i < W.heap.size) (k.mono fun i hi ho => ⟨ho, hi⟩) fun i h1 h2 ho => by
    rw [g i ho.2] at h1
    rcases ho.1 with h3 | h3
    · have := h3.2; omega
    · have := hx.m0 i h3; omega
  refine ⟨by rw [hs.1], h.turn ho hg hx.m0 ⟨(pStep s p).2.1, l', m, hs.2.1, by rw [← hs.2.2]; exact x', h1.newx _, hb.1, hb.2⟩ g (k.mono fun i _ ho => ?_)⟩
  rcases ho with ho | ho
  · exact .inl ⟨ho.1, by have := ho.2; omega⟩
  · exact .inr ho
theorem LwS.watch {xb : Nat} (h : LwS w g1 ub mb vw u s N W) (hc : W.cell? ⟨ub, 0, none⟩ = some (.pointer (some ⟨xb, 0, none⟩))) (a v : Int) (hwt : u.x.wt.length < 100) : Calls Try.prog 33 #[.pointer (some ⟨xb, 0, none⟩), .int .i64 a, .int .i64 v] W fun e W2 => e = .returned (.tuple #[]) ∧ LwS w g1 ub mb vw { u with x := txWatch u.x a v } s N W2 := by
  obtain ⟨ρ, p, l, m, hm, hp, hx, hn, hd, ho, hg⟩ := h.att hc
  subst hm
  have hk := hp.watch a v
  have hpw : p.wt = u.x.wt := hp.same.2.2.2.2.2.2.2.2.1
  refine (tpWatch_any a v hx.px (by rw [hpw]; exact hwt)).mono ?_
  rintro e W2 ⟨rfl, ρ', l', g, x', k⟩
  have h1 := (hn.gr g).kept (S := fun i => Own ρ 0 i ∧ i < W.heap.size) (k.mono fun i hi ho => ⟨ho, hi⟩) fun i h1 h2 ho => by
    have h3 := ho.1.2
    rw [g i ho.2] at h1
    omega
  have hb : Bd (pWatch p a v) N := by unfold pWatch; split <;> exact hd
  exact ⟨rfl, h.turn ho hg hx.m0 ⟨pWatch p a v, l', m, hk, hx.turn x' g k, h1.newx _, hb.1, hb.2⟩ g (k.mono fun i _ ho => .inl ⟨ho.1, by have := ho.2; omega⟩)⟩
/-- Another one's store. -/
theorem LwS.store (h : LwS w g1 ub mb vw u s N W) (a v : Int) : Calls Try.prog 34 #[.pointer (some ⟨mb, 0, none⟩), .int .i64 a, .int .i64 v] W fun e W2 => e = .returned (.int .i64 (s.eAt a)) ∧ LwS w g1 ub mb vw u (s.stored a v) N W2 := by
  obtain ⟨ρ, ⟨p, l, m, hp, hx, hn, h1, h2⟩, ho, hg⟩ := h.ex
  refine (mstore a v hx).mono ?_
  rintro e W2 ⟨rfl, hm, hw⟩
  exact ⟨rfl, h.turn ho hg hx.m0 ⟨p, l, m, hp, hx.memd hm hw, hn.kept hw fun k h3 h4 hk => by have := hx.m0 k hk; omega, h1, h2⟩ (Gr.refl _ _) (hw.mono fun _ _ h => .inr h)⟩
theorem LwS.peek (h : LwS w g1 ub mb vw u s N W) (a : Int) : Calls Try.prog 21 #[.pointer (some ⟨mb, 0, none⟩), .int .i64 a] W fun e W2 => e = .returned (.int .i64 (s.vAt a)) ∧ W = W2 := by
  obtain ⟨ρ, ⟨p, l, m, hp, hx, hn, h1, h2⟩, ho, hg⟩ := h.ex
  exact Peek_at a W _ mb vw s hx.mem
theorem LwS.decided {xb : Nat} (h : LwS w g1 ub mb vw u s N W) (hc : W.cell? ⟨ub, 0, none⟩ = some (.pointer (some ⟨xb, 0, none⟩))) : Calls Try.prog 24 #[.pointer (some ⟨xb, 0, none⟩)] W fun e W2 => e = .returned (.bool u.x.sure) ∧ W = W2 := by
  obtain ⟨ρ, p, l, m, hm, hp, hx, hn, hd, ho, hg⟩ := h.att hc
  have := tpDecided_any hx.px
  rw [hp.same.2.2.2.2.2.2.2.2.2.2.1] at this
  exact this
theorem LwS.cause {xb : Nat} (h : LwS w g1 ub mb vw u s N W) (hc : W.cell? ⟨ub, 0, none⟩ = some (.pointer (some ⟨xb, 0, none⟩))) : Calls Try.prog 30 #[.pointer (some ⟨xb, 0, none⟩)] W fun e W2 => e = .returned (.int .i64 u.x.cause) ∧ W = W2 := by
  obtain ⟨ρ, p, l, m, hm, hp, hx, hn, hd, ho, hg⟩ := h.att hc
  have := tpCause_any hx.px
  rw [hp.same.2.2.2.2.2.2.2.2.2.2.2.1] at this
  exact this
theorem LwS.stamp {xb : Nat} (h : LwS w g1 ub mb vw u s N W) (hc : W.cell? ⟨ub, 0, none⟩ = some (.pointer (some ⟨xb, 0, none⟩))) : Calls Try.prog 26 #[.pointer (some ⟨xb, 0, none⟩)] W fun e W2 => e = .returned (.int .i64 u.x.stamp) ∧ W = W2 := by
  obtain ⟨ρ, p, l, m, hm, hp, hx, hn, hd, ho, hg⟩ := h.att hc
  have := tpStamp_any hx.px
  rw [hp.same.2.2.2.2.2.2.2.2.2.2.2.2.1] at this
  exact this
theorem LwS.made {xb : Nat} (h : LwS w g1 ub mb vw u s N W) (hc : W.cell? ⟨ub, 0, none⟩ = some (.pointer (some ⟨xb, 0, none⟩))) : Calls Try.prog 22 #[.pointer (some ⟨xb, 0, none⟩)] W fun e W2 => e = .returned (.int .i64 u.x.made) ∧ W = W2 := by
  obtain ⟨ρ, p, l, m, hm, hp, hx, hn, hd, ho, hg⟩ := h.att hc
  have := tpMade_any hx.px
  rw [hp.same.2.2.2.2.2.2.2.2.2.2.2.2.2.1] at this
  exact this
theorem LwS.sets {xb : Nat} (h : LwS w g1 ub mb vw u s N W) (hc : W.cell? ⟨ub, 0, none⟩ = some (.pointer (some ⟨xb, 0, none⟩))) : Calls Try.prog 19 #[.pointer (some ⟨xb, 0, none⟩)] W fun e W2 => ∃ va vb, e = .returned (.tuple #[va, vb]) ∧ NL W2 W.heap.size va (u.x.rs.map fun p => p.1) ∧ WL W2 W.heap.size vb u.x.ws ∧ Below W.heap.size W W2 := by
  obtain ⟨ρ, p, l, m, hm, hp, hx, hn, hd, ho, hg⟩ := h.att hc
  have := tpSets_any hx.px
  unfold SetsRet at this
  rw [hp.same.2.2.2.2.2.1, hp.same.2.2.2.2.2.2.1] at this
  exact this

end Go.Proofs.Ytjfinnjmcnjciaa

namespace Go.Proofs.Ytjfinnjmcnjciaa
open Go.RowKit
attribute [local go_sem] Later.cell Later.frozen

/-- What a number a block has where an attempt alone begins. -/
def rho0 (w : World) (v : Value) : Nat → Nat := fun k => if k < w.heap.size then 99 else if v.ownBlock = some k then 10 else 0
theorem LwS.start {w w1 w2 w3 w4 : World} {g1 mb c xb : Nat} {vw vr v : Value} {ρ' : Nat → Nat} {l : PL} {pl : Pl} {ck : Int} (hg1 : w.heap.size ≤ g1) (hmap : w1.heap[g1]? = some (.cells #[.int .i64 3, .int .i64 1, .int .i64 3, .int .i64 0, .int .i64 4] 31 (0, 0))) (hb1 : Below w.heap.size w w1)
    (hp : Pair w2 w1.heap.size mb vw c vr S0 S0) (hb2 : Below w1.heap.size w1 w2) (hpo : PO w3 w2.heap.size v pl) (hb3 : Below w2.heap.size w2 w3) (hlen : pl.length ≤ 50) (hg : Gr (rho0 w v) ρ' w3) (hx : PX w4 ρ' 0 xb (PT.new mT 1 32 32 1000) l) (hb4 : Below w3.heap.size w3 w4) :
    LwS w g1 w4.heap.size mb vw (RU.new 1 ck pl) S0 0 (w4.alloc (.cells #[.pointer (some ⟨xb, 0, none⟩), v, .int .i64 0, .bool false, .int .i64 0, .slice none 0 0] 46)) := by
  have hlt := lt_of_block hmap
  have s1 := hb1.size
  have s2 := hb2.size
  have s3 := hb3.size
  have s4 := hb4.size
  have hb5 := bnew (bid w4) (.cells #[.pointer (some ⟨xb, 0, none⟩), v, .int .i64 0, .bool false, .int .i64 0, .slice none 0 0] 46)
  have hb24 := bthen hb3 hb4
  have hmlt : ∀ k, MemS mb vw k → k < w2.heap.size ∧ w1.heap.size ≤ k := fun k hk => by
    refine ⟨?_, Nat.le_of_not_lt fun h => hp.mem.old k h hk⟩
    rcases hk with rfl | hk
    · exact hp.mem.lt
    · exact (hp.mem.row.lt k hk).2
  have hm4 : Mem w4 w1.heap.size mb vw S0 := hp.mem.kept (Wrote.of_below hb24 (fun _ => False)) (fun _ _ h => h)
  have hr : ∀ k, k < w3.heap.size → newR ρ' w4.heap.size 8 k = rho0 w v k := fun k hk => by rw [newR_old (by omega)]; exact hg k hk
  have hown : ∀ k, v.ownBlock = some k → w2.heap.size ≤ k ∧ k < w3.heap.size := fun k hk => hpo.old hk
  have hm0 : ∀ k, MemS mb vw k → newR ρ' w4.heap.size 8 k = 0 := fun k hk => by
    have h1 := hmlt k hk
    rw [hr k (by omega)]
    unfold rho0
    rw [if_neg (by omega), if_neg (fun e => by have := hown k e; omega)]
  have hpx : PX (w4.alloc (.cells #[.pointer (some ⟨xb, 0, none⟩), v, .int .i64 0, .bool false, .int .i64 0, .slice none 0 0] 46)) (newR ρ' w4.heap.size 8) 0 xb (PT.new mT 1 32 32 1000) l := (hx.gr (newR_gr ρ' w4 8)).below hb5
  have hm5 : Mem (w4.alloc (.cells #[.pointer (some ⟨xb, 0, none⟩), v, .int .i64 0, .bool false, .int .i64 0, .slice none 0 0] 46)) w.heap.size mb vw S0 := (hm4.kept (Wrote.of_below hb5 (fun _ => False)) (fun _ _ h => h)).mono s1
  have hpo5 := (hpo.below hb4).below hb5
  obtain ⟨a, cc, hv, hrow, hblk⟩ := hpo5.form
  refine ⟨⟨newR ρ' w4.heap.size 8, ⟨PT.new mT 1 32 32 1000, l, ⟨xb, a, cc, .slice none 0 0⟩, RP.new _ _ _ _ _, ⟨hpx, hm5, hm0⟩, ⟨?_, hrow, WL.nil _ _, newR_new (Nat.le_refl _), (fun k hk => by simp [Value.ownBlock] at hk), fun x hx hl => ?_, by show 0 ≤ 100; omega, hlen⟩, Nat.zero_le _, Nat.zero_le _⟩, fun k hk => ?_, ?_⟩, ?_, fun h => by have := (hmlt _ h).2; omega, bthen (bthen (bthen hb1 hb2) hb24) hb5⟩
  · rw [heap_alloc_new, hv]; rfl
  · have h1 := hblk x hx hl
    have h2 := hown _ h1
    refine ⟨?_, by rw [size_alloc1]; omega⟩
    rw [hr _ h2.2]
    unfold rho0
    rw [if_neg (by omega), if_pos h1]
  · rw [hr k (by omega)]
    unfold rho0
    rw [if_pos hk]
  · rw [hr g1 (by omega)]
    unfold rho0
    rw [if_neg (by omega), if_neg (fun e => by have := hown g1 e; omega)]
  · exact (hb5.block _ (by omega)).trans ((hb24.block _ (by omega)).trans ((hb2.block _ hlt).trans hmap))
/-- The plan's loop. -/
structure PlI (w2 : World) (ps : List Tq3) (W : World) (v : Value) (j : Nat) : Prop where
  own : PO W w2.heap.size v (planF (ps.take j))
  below : Below w2.heap.size w2 W
theorem planF_snoc {ps : List Tq3} {j : Nat} {p : Tq3} (h : ps[j]? = some p) : planF (ps.take (j + 1)) = planF (ps.take j) ++ [op3 p] := by
  obtain ⟨hl, rfl⟩ := List.getElem?_eq_some_iff.1 h
  unfold planF
  rw [List.take_succ_eq_append_getElem hl, List.map_append]
  rfl
theorem ck_in (k : Int) : wrap64 (1 + kF k) = 1 ∨ wrap64 (1 + kF k) = 2 := by
  rcases kF_in k with h | h <;> rw [h]
  · exact .inl (by unfold wrap64; omega)
  · exact .inr (by unfold wrap64; omega)

end Go.Proofs.Ytjfinnjmcnjciaa

namespace Go.Proofs.Ytjfinnjmcnjciaa
open Go.RowKit

theorem succ6 {C : Nat} (h : C < 6) : wrap64 (1 + (C : Int)) = ((C + 1 : Nat) : Int) := by unfold wrap64; omega
theorem mod_hid (k : Int) (n : Nat) (m : Int) (hm : m = (n : Int)) (hn : 0 < n) (hb : n ≤ 1000) : ∃ c : Nat, c < n ∧ Hid (wrap64 ((IntKind.u64.wrap k).tmod m) = (c : Int)) := by
  subst hm
  obtain ⟨c, h1, h2⟩ := mod_in k n hn hb
  exact ⟨c, h1, hid h2⟩
theorem q_wj {j : Nat} (h : j ≤ 60) : wrap64 ((j : Int) + 1) = ((j + 1 : Nat) : Int) := by unfold wrap64; omega
theorem q_lt60 {j : Nat} (h : j ≤ 3) : (j : Int) < 60 := by omega
theorem q_760 {N j : Nat} (h : N ≤ 700 + j) (hj : j ≤ 60) : N ≤ 760 := by omega
theorem q_90 {N j : Nat} (h : N ≤ 700 + j) (hj : j ≤ 60) : N ≤ 90000 := by omega
theorem q_le61 {j : Nat} (h : j ≤ 3) : j + 1 ≤ 60 := by omega
theorem q_n1 {N j : Nat} (h : N ≤ 700 + j) : N + 1 ≤ 700 + (j + 1) := by omega
theorem q_i1 {j a b : Nat} (h : b = a + 1) (hj : j ≤ a) : j + 1 ≤ b := by omega
theorem q_ms {j : Nat} (h : j ≤ 3) : 60 - (intOf (.int .i64 ((j + 1 : Nat) : Int))).toNat < 60 - (intOf (.int .i64 (j : Int))).toNat := by simp [intOf]; omega
theorem q_ux {c : Int} {s : MS} {y : TX} {j : Nat} (h : UX c 0 s y) (hj : j + y.parts.length ≤ 2) : j ≤ 3 := by omega
theorem q_d1 {d : Nat} (h : d < 4) : wrap64 ((d : Int) + 1) = ((d + 1 : Nat) : Int) := by unfold wrap64; omega
theorem q_m4 {d : Nat} (h : d < 4) : 4 - (intOf (.int .i64 ((d + 1 : Nat) : Int))).toNat < 4 - (intOf (.int .i64 (d : Int))).toNat := by simp [intOf]; omega
theorem q_m3 {d : Nat} (h : d < 3) : 3 - (intOf (.int .i64 ((d + 1 : Nat) : Int))).toNat < 3 - (intOf (.int .i64 (d : Int))).toNat := by simp [intOf]; omega
theorem q_i4 {d : Nat} (h : d < 4) : (d : Int) < 4 := by omega
theorem q_i3 {d : Nat} (h : d < 3) : (d : Int) < 3 := by omega
theorem q_n4 {d : Nat} (h : ¬ d < 4) : ¬ (d : Int) < 4 := by omega
theorem q_n3 {d : Nat} (h : ¬ d < 3) : ¬ (d : Int) < 3 := by omega
theorem DX.dat {c : Int} {s : MS} {y : TX} (h : DX c 0 s y) {d : Nat} (hd : d < 4) : s.vAt (dataP d) = 0 := by
  exact h.mem.dat d hd
theorem DX.str {c : Int} {s : MS} {y : TX} (h : DX c 0 s y) {k : Nat} (hk : k < 3) : s.vAt (2 + (k : Int)) = 0 := by
  exact h.mem.str k hk
theorem DX.ph {c : Int} {s : MS} {y : TX} (h : DX c 0 s y) : s.vAt 13 = 0 ∧ s.vAt 1 = 0 := by
  exact ⟨h.mem.ph, h.mem.seq⟩
theorem data_calls {d : Nat} (hd : d < 4) (V : World) : Calls Try.prog 20 #[.agg #[.int .i64 3, .int .i64 1, .int .i64 3, .int .i64 0, .int .i64 4], .int .i64 (d : Int)] V (fun e w' => e = .returned (.int .i64 (dataP d)) ∧ Below V.heap.size V w') := by
  have := Data_any mT (d : Int) V; rw [mT_data hd] at this; exact this
theorem mT_stripe {k : Nat} (h : k < 3) : mT.at_ 2 (k : Int) 0 = 2 + (k : Int) := by
  have : k = 0 ∨ k = 1 ∨ k = 2 := by omega
  rcases this with rfl | rfl | rfl <;> decide
theorem stripe_calls {d : Nat} (hd : d < 3) (V : World) : Calls Try.prog 29 #[.agg #[.int .i64 3, .int .i64 1, .int .i64 3, .int .i64 0, .int .i64 4], .int .i64 (d : Int)] V (fun e w' => e = .returned (.int .i64 (2 + (d : Int))) ∧ Below V.heap.size V w') := by
  have := Stripe_any mT (d : Int) V; rw [mT_stripe hd] at this; exact this
theorem thread_calls (V : World) : Calls Try.prog 25 #[.agg #[.int .i64 3, .int .i64 1, .int .i64 3, .int .i64 0, .int .i64 4], .int .i64 1, .int .i64 0] V (fun e w' => e = .returned (.int .i64 13) ∧ Below V.heap.size V w') := by
  have := Thread_any mT 1 0 V; rw [show mT.at_ 4 1 0 = 13 from by decide] at this; exact this
theorem seq_calls (V : World) : Calls Try.prog 23 #[.agg #[.int .i64 3, .int .i64 1, .int .i64 3, .int .i64 0, .int .i64 4]] V (fun e w' => e = .returned (.int .i64 1) ∧ Below V.heap.size V w') := by
  have := Seq_any mT V; rw [show mT.at_ 1 0 0 = 1 from by decide] at this; exact this
theorem zrow_v (n : Nat) (q : Int) : (MS.new (zrow n)).vAt q = 0 := by
  unfold MS.vAt
  split
  · show (zrow n).getD q.toNat 0 = 0
    unfold zrow
    rw [List.getD_eq_getElem?_getD, List.getElem?_replicate]
    split <;> rfl
  · rfl
theorem S0_mem : Mem0 S0 0 0 zeroD 0 := ⟨by show (zrow 34).length = 34; simp [zrow], zrow_v _ _, fun k _ => zrow_v _ _, fun d _ => zrow_v _ _, zrow_v _ _, zrow_v _ _⟩
/-- How it stands. -/
inductive UnI (ck : Int) (wt : List Wd) (pl : Pl) (s : MS) (u : RU) : Prop
  | new (hw : wt = []) (hu : u = RU.new 1 ck pl) (hs : s = S0)
  | on (h : SA ck wt 0 s u) (hr : u.read.length ≤ u.i)
  | done (h : EX 0 s u.x) (fin : u.fin = 1)
variable {ck : Int} {wt : List Wd} {pl : Pl} {s : MS} {u : RU}
theorem UnI.pick (h : UnI ck wt pl s u) (hf : u.fin = 0) : ∃ J : RU → Prop, J u ∧ (∀ v, J v → v.busy = false → v.fin = 0 → AskOk v ∧ J (askR v)) ∧ ((asksR 9 u).busy = true ∨ (asksR 9 u).fin ≠ 0) ∧ ((asksR 9 u).fin = 0 → StOk s (asksR 9 u)) := by
  cases h with
  | new hw hu hs => subst hu hs; exact RU.new_pick pl S0_mem
  | on h hr => exact h.pick hr
  | done h fin => rw [hf] at fin; cases fin
theorem UnI.next (h : UnI ck wt pl s u) (hw : WtOk wt) (hck : ck = 1 ∨ ck = 2) (hp : pl.length ≤ 8 ∧ ∀ o ∈ pl, o.2.1 < 4) (hf : u.fin = 0) : UnI ck wt pl (nextR s u).2 (nextR s u).1 := by
  cases h with
  | new hw hu hs =>
    subst hu hs hw
    exact .on (SA.begin S0_mem hp).1 (nextR_rl (Nat.le_refl _))
  | on h hr =>
    have hn := SA.next hw hck h
    have hr2 := nextR_rl (s := s) hr
    generalize nextR s u = q at hn hr2
    cases hn with
    | on u' s' h plan less => exact .on h hr2
    | undo u' s' h fin busy hw => exact absurd rfl hw
    | done u' s' h fin => exact .done h fin
    | dead u' s' h fin hw => exact absurd rfl hw
  | done h fin => rw [hf] at fin; cases fin
/-- A kill: of one that is decided, or has not begun, or is dead: nothing; else it is undone. -/
inductive KlI (c : Int) (s : MS) (u : RU) : Int × TX → Prop
  | none (y : TX) : KlI c s u (1, y)
  | dead (y : TX) (h : DX c 0 s y) : KlI c s u (2, y)
  | undo (y : TX) (h : UX c 0 s y) : KlI c s u (0, y)
theorem SA.kill (h : SA ck wt 0 s u) (hs : u.x.sure = false) (c : Int) : (∃ y, txKill u.x c = (2, y) ∧ DX c 0 s y) ∨ ∃ y, txKill u.x c = (0, y) ∧ UX c 0 s y ∧ y.parts.length ≤ 2 := by
  have e : txKill u.x c = abortP u.x c := by rw [h.sx.kill c, if_pos hs]
  rcases h.sx.abort hs c with ⟨h1, h2⟩ | ⟨h1, h2⟩
  · exact .inl ⟨_, by rw [e, ← h1], h2⟩
  · exact .inr ⟨_, by rw [e, ← h1], h2, h2.len.2⟩
theorem SA.kill_sure (h : SA ck wt 0 s u) (hs : u.x.sure = true) (c : Int) : txKill u.x c = (1, u.x) := by
  rw [h.sx.kill c, if_neg (by rw [hs]; decide)]
theorem kill_dead {x : TX} (h : x.alive = false) (c : Int) : txKill x c = (1, x) := if_neg (fun hh => by rw [h] at hh; cases hh.1)
theorem read_dead {x : TX} (h : x.alive = false) (a : Int) : txRead x a = (2, x) := if_neg (fun hh => by rw [h] at hh; cases hh.1)

theorem LwS.read_dead {w W : World} {g1 ub mb xb : Nat} {vw : Value} {N : Nat} (h : LwS w g1 ub mb vw u s N W) (hc : W.cell? ⟨ub, 0, none⟩ = some (.pointer (some ⟨xb, 0, none⟩))) (a : Int) (hd : u.x.alive = false) (hN : N ≤ 90000) : Calls Try.prog 31 #[.pointer (some ⟨xb, 0, none⟩), .int .i64 a] W fun e W2 => e = .returned (.int .i64 2) ∧ LwS w g1 ub mb vw u s (N + 1) W2 := by
  obtain ⟨ρ, p, l, m, hm, hp, hx, hn, hb, ho, hg⟩ := h.att hc
  have hpa : p.alive = false := by rw [hp.same.2.2.2.2.2.2.2.2.2.1]; exact hd
  have e : pRead p a = (2, p) := if_neg (fun h => by rw [hpa] at h; cases h.1)
  have := LwS.tp (y := u.x) (M := N + 1) h hm hx hn ho hg (tpRead_any a hx.px (by have := hb.2; omega)) (by rw [e]; exact hp) (by rw [e]; exact hb.mono (Nat.le_succ _))
  rw [e] at this
  exact this

end Go.Proofs.Ytjfinnjmcnjciaa
