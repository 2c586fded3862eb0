/-
  Prog of layer 5: some instructions, as many as rows. CheckProg, walked. CheckProg's argument that is a row of layer 5, opened.
-/
import Derived.Test.YtblalejegjieaaaGreatDoorKBld
import Derived.Test.YtblalejegjieaaaGreatDoorKRow
import Derived.Test.YtblalejegjieaaaGreatDoorFirst
import Derived.BigRegion
import Derived.Deep.RegionHeld3
import Derived.Deep.DrawnRows
import Derived.OrdersHeld
import Derived.Test.YtblalejegjieaaaGreatDoorKWk
import Derived.Test.YtblalejegjieaaaGreatDoorKCnf
import Derived.StillTailTactics
namespace Go.Proofs.YtblalejegjieaaaGreatDoor
open Go.RowKit
set_option linter.unusedVariables false

def nOk (n : Int) : Prop := -9223372036854775808 ≤ n ∧ n ≤ 9223372036854775807
theorem nOk.lo {n : Int} (h : nOk n) : -9223372036854775808 ≤ n := h.1
theorem nOk.hi {n : Int} (h : nOk n) : n ≤ 9223372036854775807 := h.2

theorem row_slice {w : World} {B n : Nat} {E : TypeId} {v : Value} {xs : List Value} (h : w.ownsRow B E 5 v n xs) : ∃ a c, v = .slice a n c := by
  rcases h.2 with ⟨e, e2⟩ | ⟨g, cap, cur, e, _⟩
  · exact ⟨_, _, by rw [e, e2]⟩
  · exact ⟨_, _, e⟩


theorem u64_pos (n : Int) : 0 ≤ IntKind.u64.wrap n := by
  simp only [IntKind.wrap, IntKind.signed, Bool.false_and]
  exact Int.emod_nonneg _ (by decide)

/-- What is handed back: an instruction, whichever. -/
def InstrRet (raw : Bool) (w : World) (e : Ending) (w' : World) : Prop := (∃ i : Ins, e = .returned i.v ∧ nOk i.n ∧ (raw = false → mayB i = true)) ∧ Below w.heap.size w w'

structure InAt (w : World) (k0 k1 k2 k3 : Int) (i : Ins) (W : World) : Prop where
  ks : W.heap[w.heap.size]? = some (.cells #[.int .i64 k0, .int .i64 k1, .int .i64 k2, .int .i64 k3] 24 (0, 0))
  res : W.heap[w.heap.size + 1]? = some (.cells #[.int .i64 0, .int .i64 0, .int .i64 0, .int .i64 0, .int .i64 0] 40 (0, 0))
  box : W.heap[w.heap.size + 1 + 1]? = some (.cells i.cs 40 (0, 0))
  below : Below w.heap.size w W

theorem InAt.new (w : World) (k0 k1 k2 k3 : Int) (i : Ins) : InAt w k0 k1 k2 k3 i (((w.alloc (.cells #[.int .i64 k0, .int .i64 k1, .int .i64 k2, .int .i64 k3] 24)).alloc (.cells #[.int .i64 0, .int .i64 0, .int .i64 0, .int .i64 0, .int .i64 0] 40)).alloc (.cells i.cs 40)).drew := by
  refine ⟨?_, ?_, ?_, bdrew (bnew (bnew (bnew (bid w) _) _) _)⟩
  · refine Eq.trans (b := (World.heap (World.alloc (World.alloc (World.alloc w _) _) _))[w.heap.size]?) rfl ?_
    rw [Below.heap_alloc _ _ _ (by simp; omega), Below.heap_alloc _ _ _ (by simp)]
    exact heap_alloc_new _ _
  · refine Eq.trans (b := (World.heap (World.alloc (World.alloc (World.alloc w _) _) _))[w.heap.size + 1]?) rfl ?_
    rw [Below.heap_alloc _ _ _ (by simp)]
    have := heap_alloc_new (w.alloc (.cells #[.int .i64 k0, .int .i64 k1, .int .i64 k2, .int .i64 k3] 24)) (.cells #[.int .i64 0, .int .i64 0, .int .i64 0, .int .i64 0, .int .i64 0] 40)
    rw [size_alloc1] at this
    exact this
  · have := heap_alloc_new ((w.alloc (.cells #[.int .i64 k0, .int .i64 k1, .int .i64 k2, .int .i64 k3] 24)).alloc (.cells #[.int .i64 0, .int .i64 0, .int .i64 0, .int .i64 0, .int .i64 0] 40)) (.cells i.cs 40)
    rw [size_alloc2] at this
    exact this

set_option maxRecDepth 100000 in
set_option maxHeartbeats 4000000 in
theorem Instr_any (k0 k1 k2 k3 n : Int) (raw : Bool) (w : World) (hn : nOk n) :
    Calls Tryz.prog 17 #[.agg #[.int .i64 k0, .int .i64 k1, .int .i64 k2, .int .i64 k3], .int .i64 n, .bool raw] w (InstrRet raw w) := by
  have HNO := hid hn
  clear hn
  have h0 := u64_pos k0
  have h1 := u64_pos k1
  have h2 := u64_pos k2
  have h3 := u64_pos k3
  go_enter Tryz.func17, Tryz.ntmps17
  cases raw
  · go_upto_region 5 with fail
    have hx : ∃ x : Int, 1 + IntKind.u64.wrap k0 % 22 = x ∧ opB x = true := ⟨_, rfl, decide_eq_true (by omega)⟩
    obtain ⟨x, hx, ho⟩ := hx
    rw [hx]
    clear hx
    have HO := hid ho
    clear ho
    go_region
    go_upto_region 7 with fail
    have hb0 : (0 ≤ IntKind.u64.wrap k1 % 4 ∧ IntKind.u64.wrap k1 % 4 < 4) ∧ (0 ≤ IntKind.u64.wrap k2 % 4 ∧ IntKind.u64.wrap k2 % 4 < 4) ∧ (0 ≤ IntKind.u64.wrap k3 % 4 ∧ IntKind.u64.wrap k3 % 4 < 4) := by omega
    have HX : Hid (∃ a b c, ((0 ≤ a ∧ a < 4) ∧ (0 ≤ b ∧ b < 4) ∧ (0 ≤ c ∧ c < 4)) ∧ InAt w k0 k1 k2 k3 ⟨x, a, b, c, n⟩ (((w.alloc (.cells #[.int .i64 k0, .int .i64 k1, .int .i64 k2, .int .i64 k3] 24)).alloc (.cells #[.int .i64 0, .int .i64 0, .int .i64 0, .int .i64 0, .int .i64 0] 40)).alloc (.cells #[.int .i64 x, .int .i64 (IntKind.u64.wrap k1 % 4), .int .i64 (IntKind.u64.wrap k2 % 4), .int .i64 (IntKind.u64.wrap k3 % 4), .int .i64 n] 40)).drew) := hid ⟨_, _, _, hb0, InAt.new w k0 k1 k2 k3 ⟨x, _, _, _, n⟩⟩
    refine wp_rename (fun W => ∃ a b c, ((0 ≤ a ∧ a < 4) ∧ (0 ≤ b ∧ b < 4) ∧ (0 ≤ c ∧ c < 4)) ∧ InAt w k0 k1 k2 k3 ⟨x, a, b, c, n⟩ W) HX.out ?_
    rintro W ⟨a, b, c, hb, hW⟩
    have HW := hid hW
    have HBD := hid hb
    have hb2 : 0 ≤ b := hb.2.1.1
    clear hb
    clear hW HX hb0 h0 h1 h2 h3
    have c0 := cell_of_blk HW.out.box 0
    have c1 := cell_of_blk HW.out.box 1
    have c2 := cell_of_blk HW.out.box 2
    have c3 := cell_of_blk HW.out.box 3
    have c4 := cell_of_blk HW.out.box 4
    have e0 := cell_of_blk HW.out.res 0
    have e1 := cell_of_blk HW.out.res 1
    have e2 := cell_of_blk HW.out.res 2
    have e3 := cell_of_blk HW.out.res 3
    have e4 := cell_of_blk HW.out.res 4
    have f0 := frozen_of_blk HW.out.box 0
    have f1 := frozen_of_blk HW.out.box 1
    have f2 := frozen_of_blk HW.out.box 2
    have f3 := frozen_of_blk HW.out.box 3
    have f4 := frozen_of_blk HW.out.box 4
    have g0 := frozen_of_blk HW.out.res 0
    have g1 := frozen_of_blk HW.out.res 1
    have g2 := frozen_of_blk HW.out.res 2
    have g3 := frozen_of_blk HW.out.res 3
    have g4 := frozen_of_blk HW.out.res 4
    simp only [Ins.cs, List.getElem?_toArray, List.getElem?_cons_zero, List.getElem?_cons_succ] at c0 c1 c2 c3 c4 e0 e1 e2 e3 e4
    rcases op_cases x with (rfl | rfl | rfl | rfl | rfl | rfl | rfl | rfl | rfl | rfl | rfl) | (rfl | rfl | rfl | rfl | rfl | rfl | rfl | rfl | rfl | rfl | rfl) | h
    case inr.inr => exact absurd (of_decide_eq_true HO.out) (by omega)
    all_goals
      go_wp2
      refine bodyPost_ret (v := (Ins.mk _ _ _ _ _).v) (by simp [results, Tryz.results17, go_sem, c0, c1, c2, c3, c4, e0, e1, e2, e3, e4]; exact ⟨rfl, rfl, rfl, rfl, rfl⟩) rfl ⟨⟨_, rfl, by first | exact HNO.out | (unfold nOk; dsimp only; omega), fun _ => by have := HBD.out; simp [mayB, opB, amongB, limA, limB, limC, freeB]; try omega⟩, ?_⟩
      (repeat (refine Below.setCell ?_ (by dsimp only; omega) _))
      exact HW.out.below
  · go_wp2
    exact bodyPost_ret (v := (Ins.mk k0 k1 k2 k3 n).v) (by simp [results, Tryz.results17, go_sem]) rfl ⟨⟨_, rfl, HNO.out, fun h => by cases h⟩, bnew (bnew (bnew (bid w) _) _) _⟩

end Go.Proofs.YtblalejegjieaaaGreatDoor

namespace Go.Proofs.YtblalejegjieaaaGreatDoor
open Go.RowKit
set_option linter.unusedVariables false
attribute [local go_sem ↓] Go.wp_at_zero Go.wp_at_succ

structure Rw where
  k0 : Int
  k1 : Int
  k2 : Int
  k3 : Int
  n : Int
  raw : Bool
structure RwAt (w : World) (b o : Nat) (r : Rw) : Prop where
  c0 : w.cell? ⟨b, o, none⟩ = some (.int .i64 r.k0)
  c1 : w.cell? ⟨b, o + 1, none⟩ = some (.int .i64 r.k1)
  c2 : w.cell? ⟨b, o + 2, none⟩ = some (.int .i64 r.k2)
  c3 : w.cell? ⟨b, o + 3, none⟩ = some (.int .i64 r.k3)
  c4 : w.cell? ⟨b, o + 4, none⟩ = some (.int .i64 r.n)
  c5 : w.cell? ⟨b, o + 5, none⟩ = some (.bool r.raw)
theorem RwAt.lt {w : World} {b o : Nat} {r : Rw} (h : RwAt w b o r) : b < w.heap.size := World.block_lt_of_cell? w ⟨b, o, none⟩ h.c0
theorem RwAt.below {w w' : World} {b o : Nat} {r : Rw} (h : RwAt w b o r) (hb : Below w.heap.size w w') : RwAt w' b o r := by
  have k : ∀ {j : Nat} {v : Value}, w.cell? ⟨b, j, none⟩ = some v → w'.cell? ⟨b, j, none⟩ = some v := fun {j v} e => (hb.cell (p := ⟨b, j, none⟩) h.lt).trans e
  exact ⟨k h.c0, k h.c1, k h.c2, k h.c3, k h.c4, k h.c5⟩
structure Rows6 (w : World) (a : Option Addr) (len : Nat) (rs : List Rw) : Prop where
  cnt : rs.length = len
  row : len = 0 ∨ ∃ b off, a = some ⟨b, off, none⟩ ∧ ∀ k r, rs[k]? = some r → RwAt w b (off + k * 6) r
  ok : ∀ r ∈ rs, nOk r.n
theorem Rows6.below {w w' : World} {a : Option Addr} {len : Nat} {rs : List Rw} (h : Rows6 w a len rs) (hb : Below w.heap.size w w') : Rows6 w' a len rs := by
  refine ⟨h.cnt, ?_, h.ok⟩
  rcases h.row with h' | ⟨b, off, rfl, hc⟩
  · exact .inl h'
  · exact .inr ⟨b, off, rfl, fun k r hk => (hc k r hk).below hb⟩
theorem Rows6.at {w : World} {a : Option Addr} {len : Nat} {rs : List Rw} (h : Rows6 w a len rs) (hl : 0 < len) : ∃ b off, a = some ⟨b, off, none⟩ ∧ ∀ k r, rs[k]? = some r → RwAt w b (off + k * 6) r := by
  rcases h.row with h' | h'
  · omega
  · exact h'

def InpRet (n : Nat) (rs : List Rw) (w : World) (e : Ending) (w' : World) : Prop :=
  ∃ a c ps, e = .returned (.slice a n c) ∧ InsRow w' a n ps ∧ (∀ i ∈ ps, nOk i.n) ∧ ((∀ r ∈ rs, r.raw = false) → ps.all mayB = true) ∧ Below w.heap.size w w'
def InpAt (n : Nat) (rs : List Rw) (w : World) (tv tk : Value) (wr : World) : Prop :=
  ∃ (k : Nat) (ps : List Ins), k ≤ n ∧ tk = .int .i64 k ∧ ps.length = k ∧ (∀ i ∈ ps, nOk i.n) ∧ ((∀ r ∈ rs, r.raw = false) → ps.all mayB = true) ∧ wr.ownsRow w.heap.size 40 5 tv k (insCells ps) ∧ Below w.heap.size w wr

theorem wp_append_ins {P : Program} {o : Oper} {a : Act} {W : World} {K : Act → World → Prop} {Q : Exit → Act → World → Prop} (s x : Operand) (t : TypeId)
    (ho : o.op = .call { callee := .builtin .append, args := #[s, x], argTypes := #[t, t] })
    {B : Nat} {e : TypeId} {iI : TypeInfo} {z : Value} (ht : P.underlying t = some (.slice e)) (hi : P.info? e = some iI) (hz : iI.zero = some z) (hzs : z.cells.size = 5) (hsize : iI.size = 5) (hby : iI.bytes = 40)
    {v : Value} {n : Nat} {ps : List Ins} (hs : a.eval s = v) (hown : W.ownsRow B e 5 v n (insCells ps)) (i : Ins) (hx : a.eval x = .slice (some ⟨W.heap.size, 0, none⟩) 1 1)
    (h6 : n + 1 ≤ maxLen) (h7 : (n + 1) * 40 ≤ 140737488355328) (hB : B ≤ W.heap.size)
    (h : ∀ v' w', w'.ownsRow B e 5 v' (n + 1) (insCells (ps ++ [i])) → Wrote (fun b => v.ownBlock = some b) W w' → K (a.put o.dst v') w') : o.wp P a (W.alloc (.cells #[.int .i64 i.op, .int .i64 i.a, .int .i64 i.b, .int .i64 i.c, .int .i64 i.n] e)) K Q := by
  obtain ⟨v', w', hr, h2, h3, h4, h5⟩ := run_append_own_at (P := P) (W.alloc (.cells #[.int .i64 i.op, .int .i64 i.a, .int .i64 i.b, .int .i64 i.c, .int .i64 i.n] e)) B t o.type e iI z 5 40 ht hi hz hsize hby hzs (by decide) v n (insCells ps) (hown.alloc _) ⟨W.heap.size, 0, none⟩ 1 1 [.int .i64 i.op, .int .i64 i.a, .int .i64 i.b, .int .i64 i.c, .int .i64 i.n] rfl (cell_five_new _ _ _ _ _ _ _) (five_one _ _ _ _ _) h6 h7 (Nat.le_trans hB (bnew (bid W) _).size)
  unfold Oper.wp execOp
  simp only [ho, resolve, invoke, builtin, Sem.run_bind, Sem.run_pure, Result.andThen_ok, List.map_toArray, List.map_cons, List.map_nil, hs, hx, hr]
  exact h _ _ (by rw [insCells_snoc]; exact h2) (((Wrote.refl _ W).alloc _).grown h3 fun j hj _ => hj)

theorem keep6 {V a b : World} {B o : Nat} {c0 c1 c2 c3 c4 c5 : Value} (h : (a.cell? ⟨B, o, none⟩ = some c0 ∧ a.cell? ⟨B, o + 1, none⟩ = some c1 ∧ a.cell? ⟨B, o + 2, none⟩ = some c2 ∧ a.cell? ⟨B, o + 3, none⟩ = some c3 ∧ a.cell? ⟨B, o + 4, none⟩ = some c4 ∧ a.cell? ⟨B, o + 5, none⟩ = some c5) ∧ Below V.heap.size V a) (hb : Below a.heap.size a b) :
    (b.cell? ⟨B, o, none⟩ = some c0 ∧ b.cell? ⟨B, o + 1, none⟩ = some c1 ∧ b.cell? ⟨B, o + 2, none⟩ = some c2 ∧ b.cell? ⟨B, o + 3, none⟩ = some c3 ∧ b.cell? ⟨B, o + 4, none⟩ = some c4 ∧ b.cell? ⟨B, o + 5, none⟩ = some c5) ∧ Below V.heap.size V b := by
  obtain ⟨⟨h0, h1, h2, h3, h4, h5⟩, h6⟩ := h
  have k : ∀ {j : Nat} {v : Value}, a.cell? ⟨B, j, none⟩ = some v → b.cell? ⟨B, j, none⟩ = some v := fun {j v} h => (hb.cell (p := ⟨B, j, none⟩) (World.block_lt_of_cell? a _ h)).trans h
  exact ⟨⟨k h0, k h1, k h2, k h3, k h4, k h5⟩, bthen h6 hb⟩

set_option maxRecDepth 100000 in
set_option maxHeartbeats 8000000 in
theorem Inp_any (a : Option Addr) (n c : Nat) (rs : List Rw) (w : World) (hr : Rows6 w a n rs) (hn : n ≤ 1000) :
    Calls Tryz.prog 10 #[.slice a n c] w (InpRet n rs w) := by
  obtain ⟨iI, hi, hz0, hz1, hz2⟩ := info_parts infoIns
  have HR := hid hr
  have i2 : (n : Int) ≤ 1000 := by omega
  clear hr
  go_enter Tryz.func10, Tryz.ntmps10
  go_wp2
  go_loopw [3, 4] (fun tv tk wr => InpAt n rs w tv tk wr) (fun _ tk _ => n - (intOf tk).toNat)
  case atStart => exact ⟨0, [], Nat.zero_le _, rfl, rfl, by simp, fun _ => rfl, World.ownsRow_nil _ _ _ _, bid w⟩
  case round =>
    obtain ⟨k, ps, hk, rfl, hps, hok, hmay, hown, hb⟩ := hrel
    obtain ⟨va, vc, rfl⟩ := row_slice hown
    have HPS := hid hps
    have HOK := hid hok
    have HMAY := hid hmay
    have HO := hid hown
    have HB := hid hb
    clear hps hok hmay hown hb
    by_cases hlt : k < n
    · obtain ⟨b, off, rfl, hcell⟩ := HR.out.at (by omega)
      obtain ⟨⟨k0, k1, k2, k3, rn, raw⟩, hrk⟩ : ∃ r, rs[k]? = some r := ⟨_, List.getElem?_eq_getElem (by rw [HR.out.cnt]; exact hlt)⟩
      have hra := hcell k _ hrk
      have hrn := HR.out.ok _ (List.mem_of_getElem? hrk)
      have HRK := hid hrk
      have HRN := hid hrn
      have HKP := hid (fun (w' : World) (hb : Below w.heap.size w w') => (⟨⟨(hra.below hb).c0, (hra.below hb).c1, (hra.below hb).c2, (hra.below hb).c3, (hra.below hb).c4, (hra.below hb).c5⟩, hb⟩ : ((w'.cell? ⟨b, off + k * 6, none⟩ = some (.int .i64 k0) ∧ w'.cell? ⟨b, off + k * 6 + 1, none⟩ = some (.int .i64 k1) ∧ w'.cell? ⟨b, off + k * 6 + 2, none⟩ = some (.int .i64 k2) ∧ w'.cell? ⟨b, off + k * 6 + 3, none⟩ = some (.int .i64 k3) ∧ w'.cell? ⟨b, off + k * 6 + 4, none⟩ = some (.int .i64 rn) ∧ w'.cell? ⟨b, off + k * 6 + 5, none⟩ = some (.bool raw)) ∧ Below w.heap.size w w')))
      have j1 : (0 : Int) ≤ (k : Int) := by omega
      have j2 : (k : Int) < (n : Int) := by omega
      have HQ := hid (show k + 1 ≤ maxLen by unfold maxLen; omega)
      have HQ2 := hid (show (k + 1) * 40 ≤ 140737488355328 by omega)
      clear hcell hrk hra hrn hlt hk
      go_upto_region 5 with fail
      refine wp_region_noPanic ?_
      refine wp_region_held_drew (S := fun w' => (w'.cell? ⟨b, off + k * 6, none⟩ = some (.int .i64 k0) ∧ w'.cell? ⟨b, off + k * 6 + 1, none⟩ = some (.int .i64 k1) ∧ w'.cell? ⟨b, off + k * 6 + 2, none⟩ = some (.int .i64 k2) ∧ w'.cell? ⟨b, off + k * 6 + 3, none⟩ = some (.int .i64 k3) ∧ w'.cell? ⟨b, off + k * 6 + 4, none⟩ = some (.int .i64 rn) ∧ w'.cell? ⟨b, off + k * 6 + 5, none⟩ = some (.bool raw)) ∧ Below w.heap.size w w') (by kernel_rfl) (HKP.out _ (bdrew HB.out)) (fun hHeld => ?_)
      refine wpAnyH_take (i := 0) (v := ?_) rfl (by kernel_rfl) (by kernel_rfl) (by kernel_rfl) (fun _ _ _ h => h) (Or.inl ⟨by rfl, ?_⟩) (by assumption) ?_
      rotate_left
      · (intro w' hSw; (try dsimp only at hSw); go_simp; try (with_reducible rfl))
      (try simp only [Act.put, List.getElem_toArray, List.getElem_cons_zero, List.getElem_cons_succ, List.setIfInBounds_toArray, List.set_cons_zero, List.set_cons_succ])
      refine wpAnyH_take (i := 1) (v := ?_) rfl (by kernel_rfl) (by kernel_rfl) (by kernel_rfl) (fun _ _ _ h => h) (Or.inl ⟨by rfl, ?_⟩) (by assumption) ?_
      rotate_left
      · (intro w' hSw; (try dsimp only at hSw); go_simp; try (with_reducible rfl))
      (try simp only [Act.put, List.getElem_toArray, List.getElem_cons_zero, List.getElem_cons_succ, List.setIfInBounds_toArray, List.set_cons_zero, List.set_cons_succ])
      refine wpAnyH_take (i := 2) (v := ?_) rfl (by kernel_rfl) (by kernel_rfl) (by kernel_rfl) (fun _ _ _ h => h) (Or.inl ⟨by rfl, ?_⟩) (by assumption) ?_
      rotate_left
      · (intro w' hSw; (try dsimp only at hSw); go_simp; try (with_reducible rfl))
      (try simp only [Act.put, List.getElem_toArray, List.getElem_cons_zero, List.getElem_cons_succ, List.setIfInBounds_toArray, List.set_cons_zero, List.set_cons_succ])
      refine wpAnyH_take (i := 3) (v := ?_) rfl (by kernel_rfl) (by kernel_rfl) (by kernel_rfl) (fun _ _ _ h => h) (Or.inl ⟨by rfl, ?_⟩) (by assumption) ?_
      rotate_left
      · (intro w' hSw; (try dsimp only at hSw); go_simp; try (with_reducible rfl))
      (try simp only [Act.put, List.getElem_toArray, List.getElem_cons_zero, List.getElem_cons_succ, List.setIfInBounds_toArray, List.set_cons_zero, List.set_cons_succ])
      refine wpAnyH_take (i := 4) (v := ?_) rfl (by kernel_rfl) (by kernel_rfl) (by kernel_rfl) (fun _ _ _ h => h) (Or.inl ⟨by rfl, ?_⟩) (by assumption) ?_
      rotate_left
      · (intro w' hSw; (try dsimp only at hSw); go_simp; try (with_reducible rfl))
      (try simp only [Act.put, List.getElem_toArray, List.getElem_cons_zero, List.getElem_cons_succ, List.setIfInBounds_toArray, List.set_cons_zero, List.set_cons_succ])
      refine wpAnyH_take (i := 5) (v := ?_) rfl (by kernel_rfl) (by kernel_rfl) (by kernel_rfl) (fun _ _ _ h => h) (Or.inl ⟨by rfl, ?_⟩) (by assumption) ?_
      rotate_left
      · (intro w' hSw; (try dsimp only at hSw); go_simp; try (with_reducible rfl))
      (try simp only [Act.put, List.getElem_toArray, List.getElem_cons_zero, List.getElem_cons_succ, List.setIfInBounds_toArray, List.set_cons_zero, List.set_cons_succ])
      refine wpAnyH_take (i := 6) (v := ?_) rfl (by kernel_rfl) (by kernel_rfl) (by kernel_rfl) (fun _ _ _ h => h) (Or.inl ⟨by rfl, ?_⟩) (by assumption) ?_
      rotate_left
      · (intro w' hSw; (try dsimp only at hSw); go_simp; try (with_reducible rfl))
      (try simp only [Act.put, List.getElem_toArray, List.getElem_cons_zero, List.getElem_cons_succ, List.setIfInBounds_toArray, List.set_cons_zero, List.set_cons_succ])
      refine wpAnyH_take (i := 7) (v := ?_) rfl (by kernel_rfl) (by kernel_rfl) (by kernel_rfl) (fun _ _ _ h => h) (Or.inl ⟨by rfl, ?_⟩) (by assumption) ?_
      rotate_left
      · (intro w' hSw; (try dsimp only at hSw); go_simp; try (with_reducible rfl))
      (try simp only [Act.put, List.getElem_toArray, List.getElem_cons_zero, List.getElem_cons_succ, List.setIfInBounds_toArray, List.set_cons_zero, List.set_cons_succ])
      refine wpAnyH_take (i := 8) (v := ?_) rfl (by kernel_rfl) (by kernel_rfl) (by kernel_rfl) (fun _ _ _ h => h) (Or.inl ⟨by rfl, ?_⟩) (by assumption) ?_
      rotate_left
      · (intro w' hSw; (try dsimp only at hSw); go_simp; try (with_reducible rfl))
      (try simp only [Act.put, List.getElem_toArray, List.getElem_cons_zero, List.getElem_cons_succ, List.setIfInBounds_toArray, List.set_cons_zero, List.set_cons_succ])
      refine wpAnyH_take (i := 9) (v := ?_) rfl (by kernel_rfl) (by kernel_rfl) (by kernel_rfl) (fun _ _ _ h => h) (Or.inl ⟨by rfl, ?_⟩) (by assumption) ?_
      rotate_left
      · (intro w' hSw; (try dsimp only at hSw); go_simp; try (with_reducible rfl))
      (try simp only [Act.put, List.getElem_toArray, List.getElem_cons_zero, List.getElem_cons_succ, List.setIfInBounds_toArray, List.set_cons_zero, List.set_cons_succ])
      refine wpAnyH_take (i := 10) (v := ?_) rfl (by kernel_rfl) (by kernel_rfl) (by kernel_rfl) (fun _ _ _ h => h) (Or.inl ⟨by rfl, ?_⟩) (by assumption) ?_
      rotate_left
      · (intro w' hSw; (try dsimp only at hSw); go_simp; try (with_reducible rfl))
      (try simp only [Act.put, List.getElem_toArray, List.getElem_cons_zero, List.getElem_cons_succ, List.setIfInBounds_toArray, List.set_cons_zero, List.set_cons_succ])
      refine wpAnyH_take (i := 11) (v := ?_) rfl (by kernel_rfl) (by kernel_rfl) (by kernel_rfl) (fun _ _ _ h => h) (Or.inl ⟨by rfl, ?_⟩) (by assumption) ?_
      rotate_left
      · (intro w' hSw; (try dsimp only at hSw); go_simp; try (with_reducible rfl))
      (try simp only [Act.put, List.getElem_toArray, List.getElem_cons_zero, List.getElem_cons_succ, List.setIfInBounds_toArray, List.set_cons_zero, List.set_cons_succ])
      refine wpAnyH_take (i := 12) (v := ?_) rfl (by kernel_rfl) (by kernel_rfl) (by kernel_rfl) (fun _ _ _ h => h) (Or.inl ⟨by rfl, ?_⟩) (by assumption) ?_
      rotate_left
      · (intro w' hSw; (try dsimp only at hSw); go_simp; try (with_reducible rfl))
      (try simp only [Act.put, List.getElem_toArray, List.getElem_cons_zero, List.getElem_cons_succ, List.setIfInBounds_toArray, List.set_cons_zero, List.set_cons_succ])
      refine wpAnyH_take (i := 13) (v := ?_) rfl (by kernel_rfl) (by kernel_rfl) (by kernel_rfl) (fun _ _ _ h => h) (Or.inl ⟨by rfl, ?_⟩) (by assumption) ?_
      rotate_left
      · (intro w' hSw; (try dsimp only at hSw); go_simp; try (with_reducible rfl))
      (try simp only [Act.put, List.getElem_toArray, List.getElem_cons_zero, List.getElem_cons_succ, List.setIfInBounds_toArray, List.set_cons_zero, List.set_cons_succ])
      refine wpAnyH_take (i := 14) (v := ?_) rfl (by kernel_rfl) (by kernel_rfl) (by kernel_rfl) (fun _ _ _ h => h) (Or.inl ⟨by rfl, ?_⟩) (by assumption) ?_
      rotate_left
      · (intro w' hSw; (try dsimp only at hSw); go_simp; try (with_reducible rfl))
      (try simp only [Act.put, List.getElem_toArray, List.getElem_cons_zero, List.getElem_cons_succ, List.setIfInBounds_toArray, List.set_cons_zero, List.set_cons_succ])
      refine wpAnyH_take (i := 15) (v := ?_) rfl (by kernel_rfl) (by kernel_rfl) (by kernel_rfl) (fun _ _ _ h => h) (Or.inl ⟨by rfl, ?_⟩) (by assumption) ?_
      rotate_left
      · (intro w' hSw; (try dsimp only at hSw); go_simp; try (with_reducible rfl))
      (try simp only [Act.put, List.getElem_toArray, List.getElem_cons_zero, List.getElem_cons_succ, List.setIfInBounds_toArray, List.set_cons_zero, List.set_cons_succ])
      refine wpAnyH_ready (rs := [16]) (by kernel_rfl) (by simp) (AllReadyH.cons rfl (fun KK hK => ?_) AllReadyH.nil)
      go_simp
      go_at_call 17
      refine (Instr_any k0 k1 k2 k3 rn raw _ HRN.out).mono ?_
      rintro e w3 ⟨⟨i, rfl, hin, him⟩, hb3⟩
      have hS := keep6 hHeld hb3
      have HB3 : Hid (Below wr.heap.size wr w3) := hid (bthen (bdrew (bid wr)) hb3)
      have HIN := hid hin
      have HIM := hid him
      clear hHeld hb3 hin him
      dsimp only
      refine hK.out _ _ hS (fun hHeld => ?_)
      clear hK KK
      (try simp only [Act.put, List.getElem_toArray, List.getElem_cons_zero, List.getElem_cons_succ, List.setIfInBounds_toArray, List.set_cons_zero, List.set_cons_succ])
      refine wpAnyH_ready (rs := [17]) (by kernel_rfl) (by simp) (AllReadyH.cons rfl (fun KK hK => ?_) AllReadyH.nil)
      have hS2 := hHeld
      go_simp
      refine hK.out _ _ (keep6 hS2 (bnew (bid _) _)) (fun hHeld => ?_)
      clear hK KK
      (try simp only [Act.put, List.getElem_toArray, List.getElem_cons_zero, List.getElem_cons_succ, List.setIfInBounds_toArray, List.set_cons_zero, List.set_cons_succ])
      refine wpAnyH_ready (rs := [18]) (by kernel_rfl) (by simp) (AllReadyH.cons rfl (fun KK hK => ?_) AllReadyH.nil)
      rw [if_pos (by rfl)]
      refine wp_append_ins (.tmp 11) (.tmp 28) 38 (by rfl) Tryz.underlying38 hi hz0 rfl hz1 hz2 (by rfl) (own_wrote HO.out (Wrote.of_below HB3.out (fun _ => False)) (fun _ _ h => h)) i (by rfl) HQ.out HQ2.out hS.2.size ?_
      intro v' w4 hown' hw'
      have HO4 := hid hown'
      have HB4 : Hid (Below w.heap.size w w4) := hid (hS.2.trans (hw'.below hS.2.size fun q hq e => by have := (HO.out.lt q e).1; omega))
      have hS4 := HKP.out w4 HB4.out
      clear hown' hw' hHeld
      refine hK.out _ _ hS4 (fun hHeld => ?_)
      clear hK KK
      (try simp only [Act.put, List.getElem_toArray, List.getElem_cons_zero, List.getElem_cons_succ, List.setIfInBounds_toArray, List.set_cons_zero, List.set_cons_succ])
      refine wpAnyH_take (i := 19) (v := ?_) rfl (by kernel_rfl) (by kernel_rfl) (by kernel_rfl) (fun _ _ _ h => h) (Or.inl ⟨by rfl, ?_⟩) (by assumption) ?_
      rotate_left
      · (intro w' hSw; (try dsimp only at hSw); go_simp; try (with_reducible rfl))
      (try simp only [Act.put, List.getElem_toArray, List.getElem_cons_zero, List.getElem_cons_succ, List.setIfInBounds_toArray, List.set_cons_zero, List.set_cons_succ])
      refine wpAnyH_done (by kernel_rfl) ?_ _
      refine NoPanic.normal ?_
      go_wp2
      go_roundw
      case rel =>
        refine ⟨k + 1, ps ++ [i], by omega, by go_num, by rw [List.length_append, HPS.out]; rfl, ?_, ?_, HO4.out, HB4.out⟩
        · intro j hj
          rcases List.mem_append.1 hj with hj | hj
          · exact HOK.out j hj
          · simp at hj; subst hj; exact HIN.out
        · intro h
          rw [List.all_append, HMAY.out h]
          simp [HIM.out (h _ (List.mem_of_getElem? HRK.out))]
      case measure => simp [intOf]; omega
    · obtain rfl : k = n := by omega
      have HRT := hid (show InpRet k rs w (.returned (.slice va k vc)) wr from ⟨va, vc, ps, rfl, InsRow.of_own HO.out, HOK.out, HMAY.out, HB.out⟩)
      clear hlt
      go_wp2
      go_ret
      exact HRT.out

end Go.Proofs.YtblalejegjieaaaGreatDoor

namespace Go.Proofs.YtblalejegjieaaaGreatDoor
open Go.RowKit
set_option linter.unusedVariables false

theorem zrow : (Tryz.prog.info? 26).map (fun i => (i.zero, i.size)) = some (some (.agg #[.int .i64 0, .int .i64 0, .int .i64 0, .int .i64 0, .int .i64 0, .bool false]), 6) := by kernel_rfl

/-- A row as a value. -/
@[reducible] def Rw.cs (r : Rw) : Array Value := #[.int .i64 r.k0, .int .i64 r.k1, .int .i64 r.k2, .int .i64 r.k3, .int .i64 r.n, .bool r.raw]
@[reducible] def Rw.v (r : Rw) : Value := .agg r.cs

theorem progGo_le : ∀ (zs : List Int) (p : List Ins), p.length ≤ 43 → (progGo zs p).length ≤ 43 := by
  intro zs
  induction zs with
  | nil => intro p h; exact h
  | cons z zs ih =>
    intro p h
    by_cases h1 : p.length < 34
    · rw [progGo_yes h1]
      refine ih _ ?_
      have := pieceF_len z
      rw [List.length_append]
      omega
    · rw [progGo_no h1]
      exact h
theorem progs6_le (zss : List (List Int)) : ∀ p ∈ progs6 zss, p.length ≤ 43 := by
  intro p hp
  unfold progs6 at hp
  split at hp
  · simp at hp
    subst hp
    simp
  · rw [List.mem_map] at hp
    obtain ⟨zs, _, rfl⟩ := hp
    exact progGo_le zs _ (by simp)
theorem progs6_len' (zss : List (List Int)) : 1 ≤ (progs6 zss).length ∧ (progs6 zss).length ≤ 3 := by
  unfold progs6
  split
  · simp
  · rw [List.length_map, List.length_take]
    omega
theorem k8_facts' {w' : World} {b : Nat} {k : K8} (h1 : w'.heap[b]? = some (.cells #[.int .i64 k.k0, .int .i64 k.k1, .int .i64 k.k2, .int .i64 k.k3, .int .i64 k.k4, .int .i64 k.k5, .int .i64 k.k6, .int .i64 k.k7] 22 (0, 0))) :
    w'.cell? ⟨b, 0, none⟩ = some (.int .i64 k.k0) ∧ w'.cell? ⟨b, 1, none⟩ = some (.int .i64 k.k1) ∧ w'.cell? ⟨b, 2, none⟩ = some (.int .i64 k.k2) ∧ w'.cell? ⟨b, 3, none⟩ = some (.int .i64 k.k3) ∧ w'.cell? ⟨b, 4, none⟩ = some (.int .i64 k.k4) ∧ w'.cell? ⟨b, 5, none⟩ = some (.int .i64 k.k5) ∧ w'.cell? ⟨b, 6, none⟩ = some (.int .i64 k.k6) ∧ w'.cell? ⟨b, 7, none⟩ = some (.int .i64 k.k7) :=
  ⟨cell_of_blk h1 0, cell_of_blk h1 1, cell_of_blk h1 2, cell_of_blk h1 3, cell_of_blk h1 4, cell_of_blk h1 5, cell_of_blk h1 6, cell_of_blk h1 7⟩

/-- append of what is nil, whatever it tells of its room. -/
theorem run_append_nil {P : Program} {w : World} (base : Nat) (t ty e : TypeId) (i : TypeInfo) (size cc : Nat) (ht : P.underlying t = some (.slice e)) (hi : P.info? e = some i)
    (v : Value) (n : Nat) (xs : List Value) (hown : w.ownsRow base e size v n xs) :
    (Builtin.append_ #[t, t] ty #[v, .slice none 0 cc]).run P w = .ok v w := by
  rcases hown.2 with ⟨rfl, rfl⟩ | ⟨g, cap, cur, rfl, _, _, hnc, _⟩
  · simp [Builtin.append_, run_underlying ht, sizeOf, typeInfo, hi, Builtin.lenOf, Builtin.firstCells]
  · simp [Builtin.append_, run_underlying ht, sizeOf, typeInfo, hi, Builtin.lenOf, Builtin.firstCells, hnc, storeCells]
theorem wpList_append_insAny {P : Program} {ops : Array Oper} {rest : List Oper} {o : Oper} {a : Act} {W : World} {Q : Exit → Act → World → Prop} (hgd : o.guard = none) (s x : Operand) (t : TypeId)
    (ho : o.op = .call { callee := .builtin .append, args := #[s, x], argTypes := #[t, t] })
    {B : Nat} {iI : TypeInfo} {z : Value} (ht : P.underlying t = some (.slice 40)) (hi : P.info? 40 = some iI) (hz : iI.zero = some z) (hzs : z.cells.size = 5) (hsize : iI.size = 5) (hby : iI.bytes = 40)
    {v : Value} {ps : List Ins} (hs : a.eval s = v) (hown : OwnIns B v ps W) {xa : Option Addr} {m c : Nat} {qs : List Ins} (hx : a.eval x = .slice xa m c) (hrow : InsRow W xa m qs)
    (h6 : ps.length + m ≤ 1000) (hB : B ≤ W.heap.size)
    (h : ∀ v' w', OwnIns B v' (ps ++ qs) w' → (v'.ownBlock = v.ownBlock ∨ v'.ownBlock = some W.heap.size) → Wrote (fun b => v.ownBlock = some b) W w' → wpList P ops Q rest (a.put o.dst v') w') :
    wpList P ops Q (o :: rest) a W := by
  rcases hrow.row with ⟨rfl, h0⟩ | ⟨b, off, rfl, hlt, _⟩
  · have hc := hrow.cnt
    subst h0
    have : qs = [] := List.eq_nil_of_length_eq_zero hc
    subst this
    refine wpList_plain hgd fun K hK => ?_
    have hrun := run_append_nil (P := P) (w := W) B t o.type 40 iI 5 c ht hi v ps.length (insCells ps) hown.row
    unfold Oper.wp
    simp [execOp, ho, resolve, invoke, builtin, hs, hx, hrun, Result.andThen]
    exact hK _ _ (h v W (by rw [List.append_nil]; exact hown) (.inl rfl) (Wrote.refl _ W))
  · exact wpList_append_insRow hgd s x t ho ht hi hz hzs hsize hby hs hown hx hrow (fun h => by cases h) h6 hB h
theorem rows_one (r : Rw) (W : World) (h : nOk r.n) : Rows6 (W.alloc (.cells r.cs 26)) (some ⟨W.heap.size, 0, none⟩) 1 [r] := by
  have hb := heap_alloc_new W (.cells r.cs 26)
  refine ⟨rfl, .inr ⟨_, _, rfl, fun k x hk => ?_⟩, fun x hx => ?_⟩
  · match k, hk with
    | 0, hk =>
      simp at hk
      subst hk
      exact ⟨cell_of_blk hb 0, cell_of_blk hb 1, cell_of_blk hb 2, cell_of_blk hb 3, cell_of_blk hb 4, cell_of_blk hb 5⟩
  · simp at hx
    subst hx
    exact h
theorem own_at5 {B g cap n : Nat} {ps : List Ins} {w : World} (h : OwnIns B (.slice (some ⟨g, 0, none⟩) n cap) ps w) (hn : ps.length = n) {I : Nat} (hI : I < n) :
    InsAt w g (I * 5) (ps.getD I ins0) ∧ ∀ j, w.frozen? ⟨g, j, none⟩ = false := by
  obtain ⟨a, c, e, hr, _⟩ := h.shape
  simp only [Value.slice.injEq] at e
  obtain ⟨rfl, e2, rfl⟩ := e
  obtain ⟨b, off, e3, _, hc⟩ := hr.at (by omega)
  simp only [Option.some.injEq, Addr.mk.injEq, and_true] at e3
  obtain ⟨rfl, rfl⟩ := e3
  have h1 := hc I (ps.getD I ins0) (by simp [List.getD, List.getElem?_eq_getElem (show I < ps.length by omega)])
  rw [Nat.zero_add] at h1
  have hr' := h.row
  rw [e2] at hr'
  exact ⟨h1, fun j => hr'.frozenAt j⟩
theorem insCells_set : ∀ (ps : List Ins) (I : Nat) (y : Ins), I < ps.length → (((((insCells ps).set (I * 5) (.int .i64 y.op)).set (I * 5 + 1) (.int .i64 y.a)).set (I * 5 + 2) (.int .i64 y.b)).set (I * 5 + 3) (.int .i64 y.c)).set (I * 5 + 4) (.int .i64 y.n) = insCells (ps.set I y) := by
  intro ps
  induction ps with
  | nil => intro I y h; simp at h
  | cons p ps ih =>
    intro I y h
    cases I with
    | zero => rfl
    | succ I =>
      have := ih I y (by simpa using h)
      rw [List.set_cons_succ]
      show _ = [.int .i64 p.op, .int .i64 p.a, .int .i64 p.b, .int .i64 p.c, .int .i64 p.n] ++ insCells (ps.set I y)
      rw [← this]
      have e : insCells (p :: ps) = [.int .i64 p.op, .int .i64 p.a, .int .i64 p.b, .int .i64 p.c, .int .i64 p.n] ++ insCells ps := rfl
      rw [e, show (I + 1) * 5 = I * 5 + 5 by omega]
      simp only [List.cons_append, List.nil_append, List.set_cons_succ, show ∀ a b : Nat, a + 5 + b = (a + b) + 5 from fun a b => by omega]
theorem own_set5 {B g cap n : Nat} {ps : List Ins} {w : World} (h : OwnIns B (.slice (some ⟨g, 0, none⟩) n cap) ps w) (hn : ps.length = n) {I : Nat} (hI : I < n) (y : Ins) :
    OwnIns B (.slice (some ⟨g, 0, none⟩) n cap) (ps.set I y) (((((w.setCell ⟨g, I * 5, none⟩ (.int .i64 y.op)).setCell ⟨g, I * 5 + 1, none⟩ (.int .i64 y.a)).setCell ⟨g, I * 5 + 2, none⟩ (.int .i64 y.b)).setCell ⟨g, I * 5 + 3, none⟩ (.int .i64 y.c)).setCell ⟨g, I * 5 + 4, none⟩ (.int .i64 y.n)) := by
  have hr := h.row
  rw [hn] at hr
  have h5 := (World.ownsRow.stored (World.ownsRow.stored (World.ownsRow.stored (World.ownsRow.stored (World.ownsRow.stored hr (I * 5) (.int .i64 y.op)).1 (I * 5 + 1) (.int .i64 y.a)).1 (I * 5 + 2) (.int .i64 y.b)).1 (I * 5 + 3) (.int .i64 y.c)).1 (I * 5 + 4) (.int .i64 y.n)).1
  rw [insCells_set ps I y (by omega)] at h5
  refine ⟨?_⟩
  rw [List.length_set, hn]
  exact h5
/-- The front of a row that the call made. -/
theorem own_front {B g cap n m : Nat} {ps : List Ins} {w : World} (h : OwnIns B (.slice (some ⟨g, 0, none⟩) n cap) ps w) (hn : ps.length = n) (hm : m ≤ n) : OwnIns B (.slice (some ⟨g, 0, none⟩) m cap) (ps.take m) w := by
  have hr := h.row
  rw [hn] at hr
  have hl : (ps.take m).length = m := by rw [List.length_take]; omega
  refine ⟨?_⟩
  rw [hl]
  obtain ⟨h1, h2⟩ := hr
  rcases h2 with ⟨h0, h3⟩ | ⟨g', cap', cur, hv, hg, hh, hnc, hcap, hsz, htake⟩
  · cases h0
  · cases hv
    refine ⟨by rw [insCells_len, hl], .inr ⟨g, cap, cur, rfl, hg, hh, by omega, hcap, hsz, ?_⟩⟩
    have e : (insCells ps).take (m * 5) = insCells (ps.take m) := by
      have : insCells ps = insCells (ps.take m) ++ insCells (ps.drop m) := by rw [← insCells_app, List.take_append_drop]
      rw [this, List.take_left' (by rw [insCells_len, hl])]
    rw [← e, ← htake, List.take_take, Nat.min_eq_left (Nat.mul_le_mul_right _ hm)]
/-- What stands behind one of a row that the call made. -/
theorem own_tail {B g cap n I : Nat} {ps : List Ins} {w : World} (h : OwnIns B (.slice (some ⟨g, 0, none⟩) n cap) ps w) (hn : ps.length = n) (hI : I < n) (hc : n ≤ cap) {ad : Addr} (had : (if cap = I + 1 then some (Addr.mk g 0 none) else some (Addr.mk g ((I + 1) * 5) none)) = some ad) :
    InsRow w (some ad) (n - (I + 1)) (ps.drop (I + 1)) := by
  have hg := (h.old (g := g) rfl).2
  obtain ⟨a, c, e, hr, _⟩ := h.shape
  simp only [Value.slice.injEq] at e
  obtain ⟨rfl, e2, rfl⟩ := e
  refine ⟨by rw [List.length_drop, hn], ?_⟩
  by_cases hz : cap = I + 1
  · rw [if_pos hz] at had
    cases had
    refine .inr ⟨g, 0, rfl, hg, fun k i hk => ?_⟩
    rw [List.drop_eq_nil_of_le (by omega)] at hk
    simp at hk
  · rw [if_neg hz] at had
    cases had
    refine .inr ⟨g, (I + 1) * 5, rfl, hg, fun k i hk => ?_⟩
    obtain ⟨b, off, e3, _, hcell⟩ := hr.at (by omega)
    simp only [Option.some.injEq, Addr.mk.injEq, and_true] at e3
    obtain ⟨rfl, rfl⟩ := e3
    rw [List.getElem?_drop] at hk
    have := hcell _ i hk
    rw [show 0 + (I + 1 + k) * 5 = (I + 1) * 5 + k * 5 by omega] at this
    exact this
theorem progs_block {B : Nat} {c : Cfg} {s : CV} {zs : List Int} {W : World} (h : Built B c s zs W) (h0 : 0 < c.progs.length) : ∃ g, s.ap = some ⟨g, 0, none⟩ ∧ B ≤ g ∧ g < W.heap.size ∧ ∀ k, W.frozen? ⟨g, k, none⟩ = false := by
  obtain ⟨vs, hr, _⟩ := h.progs.ex
  obtain ⟨g, cap, e, h1, h2⟩ := hr.form h0
  simp only [Value.slice.injEq] at e
  refine ⟨g, e.1, h1, h2, fun k => ?_⟩
  have hr' := hr
  rw [e.1] at hr'
  obtain ⟨_, e2, e3⟩ := e
  rw [e2, e3] at hr'
  exact hr'.frozenAt k

set_option maxRecDepth 100000 in
set_option maxHeartbeats 8000000 in
theorem prog_walk {sb : Nat → Addr} (k : K8) (a : Option Addr) (n c : Nat) (zss : List (List Int)) (a2 : Int) (r : Rw) (out : Bool) (w : World) (hE : Errs sb w) (hr : RowsRaw w a n zss) (hn : n ≤ maxLen) (hrn : nOk r.n) :
    Calls Tryz.prog 3 #[k.v, .slice a n c, .int .i64 a2, r.v, .bool out] w fun e w' => e = .returned (.bool true) ∧ Below w.heap.size w w' := by
  have HE := hid hE
  have HB0 := hid (bnew (bnew (bid w) (.cells #[.int .i64 k.k0, .int .i64 k.k1, .int .i64 k.k2, .int .i64 k.k3, .int .i64 k.k4, .int .i64 k.k5, .int .i64 k.k6, .int .i64 k.k7] 22)) (.cells r.cs 26))
  have HFW := hid (fun (W : World) (hW : Below w.heap.size w W) => Few_any a n c 12 zss W (hr.below hW) hn (by decide))
  have HTD := hid (fun (W : World) (hW : Below w.heap.size w W) => told6_any (sb := sb) W (hE.below hW))
  by_cases hf : fewB zss 12 = true
  · obtain ⟨f4, f12⟩ := fewB_yes hf
    rw [hf] at HFW
    have HBN := hid (fun (W : World) (hW : Below w.heap.size w W) => Build_any k a n c zss W ((hr.below hW).small fun zs hz => by have := f12 zs hz; omega) (by have := hr.cnt; omega))
    have HPL := hid (show 1 ≤ (build6 k zss).progs.length ∧ (build6 k zss).progs.length ≤ 3 from progs6_len' zss)
    have HPP := hid (show ∀ p ∈ (build6 k zss).progs, p.length ≤ 43 from progs6_le zss)
    have HLN := hid (show (build6 k zss).locks.length = 3 ∧ (build6 k zss).conds.length = 3 from ⟨rfl, rfl⟩)
    generalize build6 k zss = cc at HBN HPL HPP HLN
    clear hE hr hf f4 f12
    go_enter Tryz.func3, Tryz.ntmps3
    go_upto_region 1 with fail
    refine wp_rename (fun W => Below w.heap.size w W ∧ W.heap[w.heap.size]? = some (.cells #[.int .i64 k.k0, .int .i64 k.k1, .int .i64 k.k2, .int .i64 k.k3, .int .i64 k.k4, .int .i64 k.k5, .int .i64 k.k6, .int .i64 k.k7] 22 (0, 0)) ∧ W.heap[w.heap.size + 1]? = some (.cells r.cs 26 (0, 0))) ⟨HB0.out, (Below.heap_alloc _ _ _ (by simp)).trans (heap_alloc_new _ _), heap_alloc_new1 _ _ _⟩ ?_
    rintro W1 ⟨hb1, hk1, hr1⟩
    have HB1 := hid hb1
    have HK1 := hid hk1
    have HR1 := hid hr1
    clear hb1 hk1 hr1 HB0
    have HK8 := hid (fun (W : World) (hW : Below W1.heap.size W1 W) => (hW.block _ (lt_of_block HK1.out)).trans HK1.out)
    have HRW := hid (fun (W : World) (hW : Below W1.heap.size W1 W) => (hW.block _ (lt_of_block HR1.out)).trans HR1.out)
    go_upto_region 4 with (first | (go_at_call 5; go_must (refine (HFW.out _ HB1.out).mono ?_; rintro e w1 ⟨rfl, hb1⟩; obtain ⟨q0, q1, q2, q3, q4, q5, q6, q7⟩ := k8_facts' (HK8.out _ hb1); have HBx := hid hb1; clear hb1)) | (go_at_call 7; go_must (refine (HBN.out _ (bthen HB1.out HBx.out)).mono ?_; rintro e w2 ⟨s, rfl, hbt, hni, hb2⟩; have HBU := hid (hbt.mono HBx.out.size); have HNI := hid hni; have HB2 := hid (bthen HBx.out hb2); clear hbt hni hb2)))
    refine wp_rename (fun W => PB W1 w2.heap.size cc s W) (PB.new HBU.out HB2.out) ?_
    intro W3 hpb
    generalize w2.heap.size = q at hpb ⊢
    have HPB := hid hpb
    have HAK := hid (fun (W : World) (hW : Below W3.heap.size W3 W) => asks_any (sb := sb) cc s W (HE.out.below (bthen HB1.out (bthen HPB.out.below hW))) ((HPB.out.built.below hW).cfgIn) (fun t ht W' hW' => refProg_any cc s t W' (((HPB.out.built.below hW).below hW').cfgIn) ht))
    obtain ⟨k0, k1, k2, k3, k4, k5, k6, k7, k8, k9, k10, k11⟩ := cfg_facts hpb.box
    clear hpb HBU HB2 HNI HBx HBN HFW HK8 q0 q1 q2 q3 q4 q5 q6 q7
    go_upto_region 6 with (go_at_call 8; go_must (refine (HAK.out _ (bid _)).mono ?_; rintro e w4 ⟨rfl, hb4⟩; have HB4 := hid hb4; clear hb4))
    have HPB4 := hid (HPB.out.later HB4.out)
    have hpn : s.np = cc.progs.length := HPB.out.built.pn
    obtain ⟨T, hT, hT1⟩ : ∃ T : Nat, pickF a2 (s.np : Int) = (T : Int) ∧ T < s.np := by
      have := HPL.out
      have := pickF_in (x := a2) (n := (s.np : Int)) (by omega)
      exact ⟨(pickF a2 (s.np : Int)).toNat, by omega, by omega⟩
    have HPT := hid (fun W : World => pick6_any a2 (s.np : Int) W (by omega) (by have := HPL.out; omega))
    rw [hT] at HPT
    obtain ⟨g, hg, hg0, hg1, hgf⟩ := progs_block HPB4.out.built (by have := HPL.out; omega)
    obtain ⟨b, off, pa, pc, p, hae, hbl, hp, hcell, hl1, hl2, hrow⟩ := HPB4.out.built.cfgIn.progs.at hT1
    rw [hg] at hae
    simp only [Option.some.injEq, Addr.mk.injEq, and_true] at hae
    obtain ⟨rfl, rfl⟩ := hae
    rw [Nat.zero_add] at hcell
    have hp43 := HPP.out p (List.mem_of_getElem? hp)
    have HGF := hid hgf
    have HROW := hid hrow
    have HG := hid (And.intro hg0 hg1)
    clear k0 k1 k2 k3 k4 k5 k6 k7 k8 k9 k10 k11 hgf hrow hT HAK hbl
    obtain ⟨k0, k1, k2, k3, k4, k5, k6, k7, k8, k9, k10, k11⟩ := cfg_facts HPB4.out.box
    rw [hg] at k11
    have t0 : (0 : Int) ≤ (T : Int) := by omega
    have t1 : (T : Int) < ((s.np : Nat) : Int) := by omega
    obtain ⟨iI, hi, hz0, hz1, hz2⟩ := info_parts infoIns
    clear k0 k1 k2 k3 k4 k5 k6 k7 k8 k9 k10
    have HPN := hid hpn
    clear hpn
    go_upto_region 7 with (go_at_call 9; (with_reducible refine (HPT.out _).mono ?_); rintro e w' ⟨rfl, rfl⟩)
    have k11' := cell_of_blk ((HPB4.out.later (bnew (bid _) (.cells #[] 40))).box) 11
    simp only [Cfg.cs, List.getElem?_toArray, List.getElem?_cons_zero, List.getElem?_cons_succ] at k11'
    rw [hg] at k11'
    have hcell' := ((bnew (bid w4) (.cells #[] 40)).cell (p := ⟨g, T, none⟩) hg1).trans hcell
    have HLIT := hid (OwnIns.lit [] 0 w4 #[] w4.heap.size rfl rfl (Nat.le_refl _) (by decide))
    go_upto_region 8 with (at_builtin; go_must (refine wpList_append_insAny rfl (.tmp 30) (.tmp 35) 38 rfl Tryz.underlying38 hi hz0 rfl hz1 hz2 rfl HLIT.out rfl (HROW.out.below (bnew (bid _) _)) (by dsimp only [List.length_nil]; omega) (bnew (bid _) _).size ?_; intro v' w' hown hat hwr; rw [List.nil_append] at hown; have HO := hid hown; have HW := hid hwr; clear hown hat hwr))
    have HQ5 := hid (show q < w4.heap.size from lt_of_block HPB4.out.box)
    refine wp_rename (fun W => OwnIns w4.heap.size v' p W ∧ Below w4.heap.size w4 W) ⟨HO.out, (bnew (bid w4) (.cells #[] 40)).trans (HW.out.below (bnew (bid w4) (.cells #[] 40)).size fun j hj e => by have := (HLIT.out.old e).1; omega)⟩ ?_
    rintro W5 ⟨ho5, hb5⟩
    have HO5 := hid ho5
    have HB5 := hid hb5
    have hcell0 := hid hcell
    clear ho5 hb5 HO HW HLIT k11' hcell' hcell k11 w'
    obtain ⟨va, vc, rfl⟩ : ∃ va vc, v' = .slice va p.length vc := by
      obtain ⟨va, vc, e, _⟩ := HO5.out.shape
      exact ⟨va, vc, e⟩
    go_upto_if 39 with fail
    go_cut [13] (fun s13 wx => ∃ p', p'.length ≤ 43 ∧ OwnIns w4.heap.size s13 p' wx ∧ Below w4.heap.size w4 wx)
    case first =>
      by_cases h0 : p.length = 0
      · have e0 : ¬ (0 : Int) < ((p.length : Nat) : Int) := by omega
        clear h0
        go_wp2
        go_meet
        case rel => exact ⟨p, hp43, HO5.out, HB5.out⟩
      · have e0 : (0 : Int) < ((p.length : Nat) : Int) := by omega
        obtain ⟨g2, vc2, hv, hgB, hgl⟩ := HO5.out.row.form (by omega)
        simp only [Value.slice.injEq, true_and] at hv
        obtain ⟨rfl, rfl⟩ := hv
        have hcap : p.length ≤ vc ∧ vc ≤ maxLen := by
          obtain ⟨_, _, e, _, _, e4, e5⟩ := HO5.out.shape
          simp only [Value.slice.injEq, true_and] at e
          exact ⟨e.2 ▸ e4, e.2 ▸ e5⟩
        obtain ⟨hcap, hcm⟩ := hcap
        obtain ⟨I, hI, hI1⟩ : ∃ I : Nat, pickF (wrap64 (a2.tdiv 3)) (p.length : Int) = (I : Int) ∧ I < p.length := by
          have := pickF_in (x := wrap64 (a2.tdiv 3)) (n := (p.length : Int)) (by omega)
          exact ⟨(pickF (wrap64 (a2.tdiv 3)) (p.length : Int)).toNat, by omega, by omega⟩
        have HPI := hid (fun W : World => pick6_any (wrap64 (a2.tdiv 3)) (p.length : Int) W (by omega) (by omega))
        rw [hI] at HPI
        have I0 : (0 : Int) ≤ (I : Int) := by omega
        have I1 : (I : Int) < ((p.length : Nat) : Int) := by omega
        have hrb := HRW.out W5 (bthen HPB.out.below (bthen HB4.out HB5.out))
        have z0 := cell_of_blk hrb 0
        have z1 := cell_of_blk hrb 1
        have z2 := cell_of_blk hrb 2
        have z3 := cell_of_blk hrb 3
        have z4 := cell_of_blk hrb 4
        have z5 := cell_of_blk hrb 5
        simp only [Rw.cs, List.getElem?_toArray, List.getElem?_cons_zero, List.getElem?_cons_succ] at z0 z1 z2 z3 z4 z5
        have HIP := hid (Inp_any (some ⟨W5.heap.size, 0, none⟩) 1 1 [r] (W5.alloc (.cells r.cs 26)) (rows_one r W5 hrn) (by decide))
        clear hI hrb
        go_upto_region 10 with (go_at_call 9; (with_reducible refine (HPI.out _).mono ?_); rintro e w' ⟨rfl, rfl⟩)
        go_upto_region 11 with (go_at_call 10; go_must (refine HIP.out.mono ?_; rintro e w6 ⟨ia, ic, qs, rfl, hqr, -, -, hb6⟩; have HB6 := hid (bthen (bnew (bid W5) _) hb6); obtain ⟨ib, io, rfl, hib, hiq⟩ := hqr.at (by decide); obtain ⟨y, hy⟩ : ∃ y, qs = [y] := List.length_eq_one_iff.1 hqr.cnt; subst hy; have hia := hiq 0 y rfl; rw [Nat.zero_mul, Nat.add_zero] at hia; obtain ⟨y0, y1, y2, y3, y4⟩ := hia; have HO6 := hid (HO5.out.below HB6.out); obtain ⟨⟨p0, p1, p2, p3, p4⟩, pf⟩ := own_at5 HO6.out rfl hI1; have pf0 := pf (I * 5); have pf1 := pf (I * 5 + 1); have pf2 := pf (I * 5 + 2); have pf3 := pf (I * 5 + 3); have pf4 := pf (I * 5 + 4); clear pf; clear hiq hqr hb6))
        have HB6w := hid (bthen HB5.out HB6.out)
        refine wp_rename (fun W => OwnIns w4.heap.size (.slice (some ⟨g2, 0, none⟩) p.length vc) (p.set I y) W ∧ Below w4.heap.size w4 W) ⟨own_set5 HO6.out rfl hI1 y, ((((HB6w.out.setCell hgB _).setCell hgB _).setCell hgB _).setCell hgB _).setCell hgB _⟩ ?_
        rintro W7 ⟨ho7, hb7⟩
        have HO7 := hid ho7
        have HB7 := hid hb7
        have HLS := hid (show (p.set I y).length = p.length by simp)
        clear ho7 hb7 HO6 HB6 HB6w p0 p1 p2 p3 p4 pf0 pf1 pf2 pf3 pf4 y0 y1 y2 y3 y4 z0 z1 z2 z3 z4 z5 HIP HPI hib w6 HO5 HB5 hgl
        generalize p.set I y = p2 at HO7 HLS
        cases out
        · go_wp2
          go_meet
          case rel => exact ⟨p2, by rw [HLS.out]; exact hp43, HO7.out, HB7.out⟩
        · unfold maxLen at hcm
          have n4 : (0 : Int) ≤ (I : Int) + 1 := by omega
          have n5 : (I : Int) + 1 ≤ ((p.length : Nat) : Int) := by omega
          have n6 : (I : Int) + 1 ≤ ((vc : Nat) : Int) := by omega
          have n7 : (I : Int) ≤ ((vc : Nat) : Int) := by omega
          have hw1 : IntKind.i64.wrap ((I : Int) + 1) = (I : Int) + 1 := i64_of (by omega) (by omega)
          have hw2 : ((I : Int) + 1).toNat = I + 1 := by omega
          have HCAP := hid hcap
          have HI1 := hid hI1
          go_upto_region 12 with fail
          go_still_tail 7, (by kernel_rfl)
          change wpList _ _ _ _ _ W7.drew
          have HO8 := hid (HO7.out.below (bdrew (bid W7)))
          have HB8 := hid (bdrew HB7.out)
          generalize W7.drew = W8 at HO8 HB8 ⊢
          obtain ⟨ad, had⟩ : ∃ ad : Addr, (if vc = I + 1 then some (Addr.mk g2 0 none) else some (Addr.mk g2 ((I + 1) * 5) none)) = some ad := by split <;> exact ⟨_, rfl⟩
          rw [had]
          have HTL := hid (own_tail HO8.out HLS.out HI1.out (by have := HCAP.out; omega) had)
          have HFR := hid (own_front HO8.out HLS.out (Nat.le_of_lt HI1.out))
          have HL1 := hid (show (p2.take I).length + (p.length - (I + 1)) ≤ 1000 by rw [List.length_take]; omega)
          have HL2 := hid (show (p2.take I ++ p2.drop (I + 1)).length ≤ 43 by rw [List.length_append, List.length_take, List.length_drop, HLS.out]; omega)
          clear had n4 n5 n6 n7 hw1 hw2
          refine wpList_append_insAny rfl (.tmp 56) (.tmp 60) 38 rfl Tryz.underlying38 hi hz0 rfl hz1 hz2 (by rfl) HFR.out (by rfl) HTL.out HL1.out HB8.out.size ?_
          intro v9 w9 hown hat hwr
          have HO9 := hid hown
          have HB9 := hid (HB8.out.trans (hwr.below HB8.out.size fun j hj e => by have := (HFR.out.old e).1; omega))
          clear hown hat hwr
          go_wp2
          go_meet
          case rel => exact ⟨_, HL2.out, HO9.out, HB9.out⟩
    case rest =>
      obtain ⟨p3, hl3, ho3, hb3⟩ := hcut
      obtain ⟨a3, c3, rfl, hr3, _, hc3, hm3⟩ := ho3.shape
      have hpb3 := HPB4.out.later hb3
      have HBT := hid (hpb3.built.setProg (cap := 0) hg (k := T) (by rw [← HPN.out]; exact hT1) hr3 hc3 hm3 (fun y hy => by
        subst hy
        have := (ho3.old (g := y.block) rfl).1
        have hG1 := HG.out.1
        have hG2 := HG.out.2
        exact ⟨by have := HPB4.out.below.size; omega, by omega⟩))
      have hqg : ¬ q = g := fun e => HPB4.out.qne (by rw [hg, e]; rfl)
      have hwr : Wrote (fun b => b = g) wc (wc.setCell ⟨g, T, none⟩ (.slice a3 p3.length c3)) := Wrote.setCell (S := fun b => b = g) (Wrote.refl _ wc) (p := ⟨g, T, none⟩) (fun _ => rfl) _
      have hbx : CfgBox (wc.setCell ⟨g, T, none⟩ (.slice a3 p3.length c3)) q { cc with progs := cc.progs.set T p3 } s := (hwr.block _ (lt_of_block hpb3.box) hqg).trans hpb3.box
      have HBX := hid hbx
      have HBB := hid (show Below w.heap.size w (wc.setCell ⟨g, T, none⟩ (.slice a3 p3.length c3)) from bthen HB1.out (hpb3.below.setCell (by have := HG.out.1; exact this) _))
      obtain ⟨k0, k1, k2, k3, k4, k5, k6, k7, k8, k9, k10, k11⟩ := cfg_facts hpb3.box
      rw [hg] at k11
      have hfz : wc.frozen? ⟨g, T, none⟩ = false := by
        obtain ⟨g', e1, _, _, e4⟩ := progs_block hpb3.built (by have := HPL.out; omega)
        rw [hg] at e1
        cases e1
        exact e4 T
      have hcl : ∃ u, wc.cell? ⟨g, T, none⟩ = some u := ⟨_, (hb3.cell (p := ⟨g, T, none⟩) HG.out.2).trans hcell0.out⟩
      obtain ⟨u0, hcl⟩ := hcl
      clear k0 k1 k2 k3 k4 k5 k6 k7 k8 k9 k10 hwr hbx hpb3 hr3
      go_upto_region 14 with fail
      refine wp_rename (fun W => Below w.heap.size w W ∧ CfgBox W q { cc with progs := cc.progs.set T p3 } s ∧ Built W1.heap.size { cc with progs := cc.progs.set T p3 } s (initF 9) W) ⟨HBB.out, HBX.out, HBT.out⟩ ?_
      rintro WF ⟨hbf, hxf, htf⟩
      have HBF := hid hbf
      have HXF := hid hxf
      have HTF := hid htf
      clear hbf hxf htf HBB HBX HBT hfz hcl k11 hcell0 hg
      generalize ({ cc with progs := cc.progs.set T p3 } : Cfg) = cf at HXF HTF
      have HAF := hid (fun (W : World) (hW : Below WF.heap.size WF W) => asks_any (sb := sb) cf s W (HE.out.below (bthen HBF.out hW)) ((HTF.out.below hW).cfgIn) (fun t ht W' hW' => refProg_any cf s t W' (((HTF.out.below hW).below hW').cfgIn) ht))
      go_wp2_with (first | (go_at_call 6; go_must (refine (HTD.out _ HBF.out).mono ?_; rintro e w8 ⟨rfl, hb8⟩; have HB8 := hid hb8; obtain ⟨k0, k1, k2, k3, k4, k5, k6, k7, k8, k9, k10, k11⟩ := cfg_facts (HXF.out.below hb8); clear hb8)) | (go_at_call 8; go_must (refine (HAF.out _ HB8.out).mono ?_; rintro e w9 ⟨rfl, hb9⟩; have HB9 := hid (bthen HB8.out hb9); clear hb9)))
      go_ret
      exact ⟨rfl, bthen HBF.out HB9.out⟩
  · rw [Bool.eq_false_iff.2 hf] at HFW
    clear hE hr
    go_enter Tryz.func3, Tryz.ntmps3
    go_wp2_with (first | (go_at_call 5; go_must (refine (HFW.out _ HB0.out).mono ?_; rintro e w1 ⟨rfl, hb1⟩; have HB1 := hid (bthen HB0.out hb1); clear hb1)) | (go_at_call 6; go_must (refine (HTD.out _ HB1.out).mono ?_; rintro e w4 ⟨rfl, hb4⟩; have HB4 := hid (bthen HB1.out hb4); clear hb4)))
    go_ret
    exact ⟨rfl, HB4.out⟩

end Go.Proofs.YtblalejegjieaaaGreatDoor

namespace Go.Proofs.YtblalejegjieaaaGreatDoor
open Go.RowKit Go.ChangeShapes Go.WideShapes Go.ChangeAt Go.Deep
set_option linter.unusedVariables false

set_option maxRecDepth 100000 in
theorem open_row {H : Type} {enc : TypeId × Value → H} {W : World} {base : Nat} {sp : Nat → Bool} {held : Bool} {v : Value} {d : DataW H} {p : List MemPlace} {b0 : Nat} (hv : Value.okWide Tryz.prog W .any b0 26 v)
    (h : DataW.Trod enc Tryz.prog W base sp held 26 v d p) : ∃ r : Rw, v = r.v ∧ nOk r.n := by
  obtain ⟨cs, rfl, hsz⟩ := okWide_struct Tryz.underlying26 hv
  obtain ⟨l⟩ := cs
  obtain ⟨fuel, hf⟩ := h
  have hce : Tryz.prog.cellsOf 26 = 6 := by kernel_rfl
  have hc4 : Tryz.prog.cellsOf 24 = 4 := by kernel_rfl
  have hc1 : Tryz.prog.cellsOf 3 = 1 := by kernel_rfl
  have hc2 : Tryz.prog.cellsOf 2 = 1 := by kernel_rfl
  have hcb : Tryz.prog.cellsOf 4 = 1 := by kernel_rfl
  have hlen : l.length = 6 := by rw [← hce]; exact hsz
  obtain ⟨ys, n', _, _, _, hyl, hfl⟩ := DataW.trod_struct Tryz.underlying26 hf
  match l, hlen, hfl with
  | [e0, e1, e2, e3, e4, e5], _, hfl =>
    match ys, hyl, hfl with
    | [y0, y1, y2], _, hfl =>
      have g0 := hfl 0 _ rfl
      have g1 := hfl 1 _ rfl
      have g2 := hfl 2 _ rfl
      change DataW.trod enc Tryz.prog W base sp held n' 24 ([e0, e1, e2, e3, e4, e5].take (Tryz.prog.cellsOf 24)) = some y0 at g0
      change DataW.trod enc Tryz.prog W base sp held n' 2 ([e4, e5].take (Tryz.prog.cellsOf 2)) = some y1 at g1
      change DataW.trod enc Tryz.prog W base sp held n' 4 ([e5].take (Tryz.prog.cellsOf 4)) = some y2 at g2
      rw [hc4] at g0
      rw [hc2] at g1
      rw [hcb] at g2
      obtain ⟨xs4, m4, _, _, _, hx4, hel4⟩ := DataW.trod_array Tryz.underlying24 g0
      have q : ∀ j, j < 4 → ∃ z, [[e0, e1, e2, e3].getD j e0] = [Value.int .i64 z] := by
        intro j hj
        have h1 := hel4 j hj
        rw [hc1] at h1
        rw [List.getElem?_eq_getElem (show j < xs4.length by omega)] at h1
        obtain ⟨z, ez, _, _⟩ := DataW.trod_int Tryz.underlying3 h1
        refine ⟨z, ?_⟩
        rw [← ez]
        have : j = 0 ∨ j = 1 ∨ j = 2 ∨ j = 3 := by omega
        rcases this with rfl | rfl | rfl | rfl <;> rfl
      obtain ⟨z0, q0⟩ := q 0 (by omega)
      obtain ⟨z1, q1⟩ := q 1 (by omega)
      obtain ⟨z2, q2⟩ := q 2 (by omega)
      obtain ⟨z3, q3⟩ := q 3 (by omega)
      obtain ⟨z4, q4, _, w4⟩ := DataW.trod_int Tryz.underlying2 g1
      obtain ⟨z5, q5, _⟩ := DataW.trod_bool Tryz.underlying4 g2
      simp at q0 q1 q2 q3
      have p4 : e4 = .int .i64 z4 := by simpa using q4
      have p5 : e5 = .bool z5 := by simpa using q5
      subst q0 q1 q2 q3 p4 p5
      exact ⟨⟨z0, z1, z2, z3, z4, z5⟩, rfl, by simpa [nOk, Lit.wf, IntKind.min, IntKind.max, IntKind.signed, IntKind.bits] using w4⟩

end Go.Proofs.YtblalejegjieaaaGreatDoor
