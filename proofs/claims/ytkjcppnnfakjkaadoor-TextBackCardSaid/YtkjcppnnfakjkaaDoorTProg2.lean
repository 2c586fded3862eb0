/-
  Prog of layer 5: some instructions, as many as rows; where no row is raw, each may be.
-/
import Derived.Test.YtkjcppnnfakjkaaDoorTProg
import Derived.Deep.RegionHeld3
import Derived.Deep.DrawnRows
namespace Go.Proofs.YtkjcppnnfakjkaaDoor
open Go.RowKit
set_option linter.unusedVariables false
attribute [local go_sem ↓] Go.wp_at_zero Go.wp_at_succ

structure Rw where
  k0 : Int
  k1 : Int
  k2 : Int
  k3 : Int
  n : Int
  raw : Bool
structure RwAt (w : World) (b o : Nat) (r : Rw) : Prop where
  c0 : w.cell? ⟨b, o, none⟩ = some (.int .i64 r.k0)
  c1 : w.cell? ⟨b, o + 1, none⟩ = some (.int .i64 r.k1)
  c2 : w.cell? ⟨b, o + 2, none⟩ = some (.int .i64 r.k2)
  c3 : w.cell? ⟨b, o + 3, none⟩ = some (.int .i64 r.k3)
  c4 : w.cell? ⟨b, o + 4, none⟩ = some (.int .i64 r.n)
  c5 : w.cell? ⟨b, o + 5, none⟩ = some (.bool r.raw)
theorem RwAt.lt {w : World} {b o : Nat} {r : Rw} (h : RwAt w b o r) : b < w.heap.size := World.block_lt_of_cell? w ⟨b, o, none⟩ h.c0
theorem RwAt.below {w w' : World} {b o : Nat} {r : Rw} (h : RwAt w b o r) (hb : Below w.heap.size w w') : RwAt w' b o r := by
  have k : ∀ {j : Nat} {v : Value}, w.cell? ⟨b, j, none⟩ = some v → w'.cell? ⟨b, j, none⟩ = some v := fun {j v} e => (hb.cell (p := ⟨b, j, none⟩) h.lt).trans e
  exact ⟨k h.c0, k h.c1, k h.c2, k h.c3, k h.c4, k h.c5⟩
structure Rows6 (w : World) (a : Option Addr) (len : Nat) (rs : List Rw) : Prop where
  cnt : rs.length = len
  row : len = 0 ∨ ∃ b off, a = some ⟨b, off, none⟩ ∧ ∀ k r, rs[k]? = some r → RwAt w b (off + k * 6) r
  ok : ∀ r ∈ rs, nOk r.n
theorem Rows6.below {w w' : World} {a : Option Addr} {len : Nat} {rs : List Rw} (h : Rows6 w a len rs) (hb : Below w.heap.size w w') : Rows6 w' a len rs := by
  refine ⟨h.cnt, ?_, h.ok⟩
  rcases h.row with h' | ⟨b, off, rfl, hc⟩
  · exact .inl h'
  · exact .inr ⟨b, off, rfl, fun k r hk => (hc k r hk).below hb⟩
theorem Rows6.at {w : World} {a : Option Addr} {len : Nat} {rs : List Rw} (h : Rows6 w a len rs) (hl : 0 < len) : ∃ b off, a = some ⟨b, off, none⟩ ∧ ∀ k r, rs[k]? = some r → RwAt w b (off + k * 6) r := by
  rcases h.row with h' | h'
  · omega
  · exact h'

def ProgRet (n : Nat) (rs : List Rw) (w : World) (e : Ending) (w' : World) : Prop :=
  ∃ a c ps, e = .returned (.slice a n c) ∧ InsRow w' a n ps ∧ (∀ i ∈ ps, nOk i.n) ∧ ((∀ r ∈ rs, r.raw = false) → ps.all mayB = true) ∧ Below w.heap.size w w'
def ProgAt (n : Nat) (rs : List Rw) (w : World) (tv tk : Value) (wr : World) : Prop :=
  ∃ (k : Nat) (ps : List Ins), k ≤ n ∧ tk = .int .i64 k ∧ ps.length = k ∧ (∀ i ∈ ps, nOk i.n) ∧ ((∀ r ∈ rs, r.raw = false) → ps.all mayB = true) ∧ wr.ownsRow w.heap.size 29 5 tv k (insCells ps) ∧ Below w.heap.size w wr

theorem wp_append_ins {P : Program} {o : Oper} {a : Act} {W : World} {K : Act → World → Prop} {Q : Exit → Act → World → Prop} (s x : Operand) (t : TypeId)
    (ho : o.op = .call { callee := .builtin .append, args := #[s, x], argTypes := #[t, t] })
    {B : Nat} {e : TypeId} {iI : TypeInfo} {z : Value} (ht : P.underlying t = some (.slice e)) (hi : P.info? e = some iI) (hz : iI.zero = some z) (hzs : z.cells.size = 5) (hsize : iI.size = 5) (hby : iI.bytes = 40)
    {v : Value} {n : Nat} {ps : List Ins} (hs : a.eval s = v) (hown : W.ownsRow B e 5 v n (insCells ps)) (i : Ins) (hx : a.eval x = .slice (some ⟨W.heap.size, 0, none⟩) 1 1)
    (h6 : n + 1 ≤ maxLen) (h7 : (n + 1) * 40 ≤ 140737488355328) (hB : B ≤ W.heap.size)
    (h : ∀ v' w', w'.ownsRow B e 5 v' (n + 1) (insCells (ps ++ [i])) → Wrote (fun b => v.ownBlock = some b) W w' → K (a.put o.dst v') w') : o.wp P a (W.alloc (.cells #[.int .i64 i.op, .int .i64 i.a, .int .i64 i.b, .int .i64 i.c, .int .i64 i.n] e)) K Q := by
  obtain ⟨v', w', hr, h2, h3, h4, h5⟩ := run_append_own_at (P := P) (W.alloc (.cells #[.int .i64 i.op, .int .i64 i.a, .int .i64 i.b, .int .i64 i.c, .int .i64 i.n] e)) B t o.type e iI z 5 40 ht hi hz hsize hby hzs (by decide) v n (insCells ps) (hown.alloc _) ⟨W.heap.size, 0, none⟩ 1 1 [.int .i64 i.op, .int .i64 i.a, .int .i64 i.b, .int .i64 i.c, .int .i64 i.n] rfl (cell_five_new _ _ _ _ _ _ _) (five_one _ _ _ _ _) h6 h7 (Nat.le_trans hB (bnew (bid W) _).size)
  unfold Oper.wp execOp
  simp only [ho, resolve, invoke, builtin, Sem.run_bind, Sem.run_pure, Result.andThen_ok, List.map_toArray, List.map_cons, List.map_nil, hs, hx, hr]
  exact h _ _ (by rw [insCells_snoc]; exact h2) (((Wrote.refl _ W).alloc _).grown h3 fun j hj _ => hj)

theorem keep6 {V a b : World} {B o : Nat} {c0 c1 c2 c3 c4 c5 : Value} (h : (a.cell? ⟨B, o, none⟩ = some c0 ∧ a.cell? ⟨B, o + 1, none⟩ = some c1 ∧ a.cell? ⟨B, o + 2, none⟩ = some c2 ∧ a.cell? ⟨B, o + 3, none⟩ = some c3 ∧ a.cell? ⟨B, o + 4, none⟩ = some c4 ∧ a.cell? ⟨B, o + 5, none⟩ = some c5) ∧ Below V.heap.size V a) (hb : Below a.heap.size a b) :
    (b.cell? ⟨B, o, none⟩ = some c0 ∧ b.cell? ⟨B, o + 1, none⟩ = some c1 ∧ b.cell? ⟨B, o + 2, none⟩ = some c2 ∧ b.cell? ⟨B, o + 3, none⟩ = some c3 ∧ b.cell? ⟨B, o + 4, none⟩ = some c4 ∧ b.cell? ⟨B, o + 5, none⟩ = some c5) ∧ Below V.heap.size V b := by
  obtain ⟨⟨h0, h1, h2, h3, h4, h5⟩, h6⟩ := h
  have k : ∀ {j : Nat} {v : Value}, a.cell? ⟨B, j, none⟩ = some v → b.cell? ⟨B, j, none⟩ = some v := fun {j v} h => (hb.cell (p := ⟨B, j, none⟩) (World.block_lt_of_cell? a _ h)).trans h
  exact ⟨⟨k h0, k h1, k h2, k h3, k h4, k h5⟩, bthen h6 hb⟩

set_option maxRecDepth 100000 in
set_option maxHeartbeats 8000000 in
theorem Prog_any (a : Option Addr) (n c : Nat) (rs : List Rw) (w : World) (hr : Rows6 w a n rs) (hn : n ≤ 1000) :
    Calls Tryd.prog 6 #[.slice a n c] w (ProgRet n rs w) := by
  obtain ⟨iI, hi, hz0, hz1, hz2⟩ := info_parts infoIns
  have HR := hid hr
  have i2 : (n : Int) ≤ 1000 := by omega
  clear hr
  go_enter Tryd.func6, Tryd.ntmps6
  go_wp2
  go_loopw [3, 4] (fun tv tk wr => ProgAt n rs w tv tk wr) (fun _ tk _ => n - (intOf tk).toNat)
  case atStart => exact ⟨0, [], Nat.zero_le _, rfl, rfl, by simp, fun _ => rfl, World.ownsRow_nil _ _ _ _, bid w⟩
  case round =>
    obtain ⟨k, ps, hk, rfl, hps, hok, hmay, hown, hb⟩ := hrel
    obtain ⟨va, vc, rfl⟩ := row_slice hown
    have HPS := hid hps
    have HOK := hid hok
    have HMAY := hid hmay
    have HO := hid hown
    have HB := hid hb
    clear hps hok hmay hown hb
    by_cases hlt : k < n
    · obtain ⟨b, off, rfl, hcell⟩ := HR.out.at (by omega)
      obtain ⟨⟨k0, k1, k2, k3, rn, raw⟩, hrk⟩ : ∃ r, rs[k]? = some r := ⟨_, List.getElem?_eq_getElem (by rw [HR.out.cnt]; exact hlt)⟩
      have hra := hcell k _ hrk
      have hrn := HR.out.ok _ (List.mem_of_getElem? hrk)
      have HRK := hid hrk
      have HRN := hid hrn
      have HKP := hid (fun (w' : World) (hb : Below w.heap.size w w') => (⟨⟨(hra.below hb).c0, (hra.below hb).c1, (hra.below hb).c2, (hra.below hb).c3, (hra.below hb).c4, (hra.below hb).c5⟩, hb⟩ : ((w'.cell? ⟨b, off + k * 6, none⟩ = some (.int .i64 k0) ∧ w'.cell? ⟨b, off + k * 6 + 1, none⟩ = some (.int .i64 k1) ∧ w'.cell? ⟨b, off + k * 6 + 2, none⟩ = some (.int .i64 k2) ∧ w'.cell? ⟨b, off + k * 6 + 3, none⟩ = some (.int .i64 k3) ∧ w'.cell? ⟨b, off + k * 6 + 4, none⟩ = some (.int .i64 rn) ∧ w'.cell? ⟨b, off + k * 6 + 5, none⟩ = some (.bool raw)) ∧ Below w.heap.size w w')))
      have j1 : (0 : Int) ≤ (k : Int) := by omega
      have j2 : (k : Int) < (n : Int) := by omega
      have HQ := hid (show k + 1 ≤ maxLen by unfold maxLen; omega)
      have HQ2 := hid (show (k + 1) * 40 ≤ 140737488355328 by omega)
      clear hcell hrk hra hrn hlt hk
      go_upto_region 5 with fail
      refine wp_region_noPanic ?_
      refine wp_region_held_drew (S := fun w' => (w'.cell? ⟨b, off + k * 6, none⟩ = some (.int .i64 k0) ∧ w'.cell? ⟨b, off + k * 6 + 1, none⟩ = some (.int .i64 k1) ∧ w'.cell? ⟨b, off + k * 6 + 2, none⟩ = some (.int .i64 k2) ∧ w'.cell? ⟨b, off + k * 6 + 3, none⟩ = some (.int .i64 k3) ∧ w'.cell? ⟨b, off + k * 6 + 4, none⟩ = some (.int .i64 rn) ∧ w'.cell? ⟨b, off + k * 6 + 5, none⟩ = some (.bool raw)) ∧ Below w.heap.size w w') (by kernel_rfl) (HKP.out _ (bdrew HB.out)) (fun hHeld => ?_)
      refine wpAnyH_take (i := 0) (v := ?_) rfl (by kernel_rfl) (by kernel_rfl) (by kernel_rfl) (fun _ _ _ h => h) (Or.inl ⟨by rfl, ?_⟩) (by assumption) ?_
      rotate_left
      · (intro w' hSw; (try dsimp only at hSw); go_simp; try (with_reducible rfl))
      (try simp only [Act.put, List.getElem_toArray, List.getElem_cons_zero, List.getElem_cons_succ, List.setIfInBounds_toArray, List.set_cons_zero, List.set_cons_succ])
      refine wpAnyH_take (i := 1) (v := ?_) rfl (by kernel_rfl) (by kernel_rfl) (by kernel_rfl) (fun _ _ _ h => h) (Or.inl ⟨by rfl, ?_⟩) (by assumption) ?_
      rotate_left
      · (intro w' hSw; (try dsimp only at hSw); go_simp; try (with_reducible rfl))
      (try simp only [Act.put, List.getElem_toArray, List.getElem_cons_zero, List.getElem_cons_succ, List.setIfInBounds_toArray, List.set_cons_zero, List.set_cons_succ])
      refine wpAnyH_take (i := 2) (v := ?_) rfl (by kernel_rfl) (by kernel_rfl) (by kernel_rfl) (fun _ _ _ h => h) (Or.inl ⟨by rfl, ?_⟩) (by assumption) ?_
      rotate_left
      · (intro w' hSw; (try dsimp only at hSw); go_simp; try (with_reducible rfl))
      (try simp only [Act.put, List.getElem_toArray, List.getElem_cons_zero, List.getElem_cons_succ, List.setIfInBounds_toArray, List.set_cons_zero, List.set_cons_succ])
      refine wpAnyH_take (i := 3) (v := ?_) rfl (by kernel_rfl) (by kernel_rfl) (by kernel_rfl) (fun _ _ _ h => h) (Or.inl ⟨by rfl, ?_⟩) (by assumption) ?_
      rotate_left
      · (intro w' hSw; (try dsimp only at hSw); go_simp; try (with_reducible rfl))
      (try simp only [Act.put, List.getElem_toArray, List.getElem_cons_zero, List.getElem_cons_succ, List.setIfInBounds_toArray, List.set_cons_zero, List.set_cons_succ])
      refine wpAnyH_take (i := 4) (v := ?_) rfl (by kernel_rfl) (by kernel_rfl) (by kernel_rfl) (fun _ _ _ h => h) (Or.inl ⟨by rfl, ?_⟩) (by assumption) ?_
      rotate_left
      · (intro w' hSw; (try dsimp only at hSw); go_simp; try (with_reducible rfl))
      (try simp only [Act.put, List.getElem_toArray, List.getElem_cons_zero, List.getElem_cons_succ, List.setIfInBounds_toArray, List.set_cons_zero, List.set_cons_succ])
      refine wpAnyH_take (i := 5) (v := ?_) rfl (by kernel_rfl) (by kernel_rfl) (by kernel_rfl) (fun _ _ _ h => h) (Or.inl ⟨by rfl, ?_⟩) (by assumption) ?_
      rotate_left
      · (intro w' hSw; (try dsimp only at hSw); go_simp; try (with_reducible rfl))
      (try simp only [Act.put, List.getElem_toArray, List.getElem_cons_zero, List.getElem_cons_succ, List.setIfInBounds_toArray, List.set_cons_zero, List.set_cons_succ])
      refine wpAnyH_take (i := 6) (v := ?_) rfl (by kernel_rfl) (by kernel_rfl) (by kernel_rfl) (fun _ _ _ h => h) (Or.inl ⟨by rfl, ?_⟩) (by assumption) ?_
      rotate_left
      · (intro w' hSw; (try dsimp only at hSw); go_simp; try (with_reducible rfl))
      (try simp only [Act.put, List.getElem_toArray, List.getElem_cons_zero, List.getElem_cons_succ, List.setIfInBounds_toArray, List.set_cons_zero, List.set_cons_succ])
      refine wpAnyH_take (i := 7) (v := ?_) rfl (by kernel_rfl) (by kernel_rfl) (by kernel_rfl) (fun _ _ _ h => h) (Or.inl ⟨by rfl, ?_⟩) (by assumption) ?_
      rotate_left
      · (intro w' hSw; (try dsimp only at hSw); go_simp; try (with_reducible rfl))
      (try simp only [Act.put, List.getElem_toArray, List.getElem_cons_zero, List.getElem_cons_succ, List.setIfInBounds_toArray, List.set_cons_zero, List.set_cons_succ])
      refine wpAnyH_take (i := 8) (v := ?_) rfl (by kernel_rfl) (by kernel_rfl) (by kernel_rfl) (fun _ _ _ h => h) (Or.inl ⟨by rfl, ?_⟩) (by assumption) ?_
      rotate_left
      · (intro w' hSw; (try dsimp only at hSw); go_simp; try (with_reducible rfl))
      (try simp only [Act.put, List.getElem_toArray, List.getElem_cons_zero, List.getElem_cons_succ, List.setIfInBounds_toArray, List.set_cons_zero, List.set_cons_succ])
      refine wpAnyH_take (i := 9) (v := ?_) rfl (by kernel_rfl) (by kernel_rfl) (by kernel_rfl) (fun _ _ _ h => h) (Or.inl ⟨by rfl, ?_⟩) (by assumption) ?_
      rotate_left
      · (intro w' hSw; (try dsimp only at hSw); go_simp; try (with_reducible rfl))
      (try simp only [Act.put, List.getElem_toArray, List.getElem_cons_zero, List.getElem_cons_succ, List.setIfInBounds_toArray, List.set_cons_zero, List.set_cons_succ])
      refine wpAnyH_take (i := 10) (v := ?_) rfl (by kernel_rfl) (by kernel_rfl) (by kernel_rfl) (fun _ _ _ h => h) (Or.inl ⟨by rfl, ?_⟩) (by assumption) ?_
      rotate_left
      · (intro w' hSw; (try dsimp only at hSw); go_simp; try (with_reducible rfl))
      (try simp only [Act.put, List.getElem_toArray, List.getElem_cons_zero, List.getElem_cons_succ, List.setIfInBounds_toArray, List.set_cons_zero, List.set_cons_succ])
      refine wpAnyH_take (i := 11) (v := ?_) rfl (by kernel_rfl) (by kernel_rfl) (by kernel_rfl) (fun _ _ _ h => h) (Or.inl ⟨by rfl, ?_⟩) (by assumption) ?_
      rotate_left
      · (intro w' hSw; (try dsimp only at hSw); go_simp; try (with_reducible rfl))
      (try simp only [Act.put, List.getElem_toArray, List.getElem_cons_zero, List.getElem_cons_succ, List.setIfInBounds_toArray, List.set_cons_zero, List.set_cons_succ])
      refine wpAnyH_take (i := 12) (v := ?_) rfl (by kernel_rfl) (by kernel_rfl) (by kernel_rfl) (fun _ _ _ h => h) (Or.inl ⟨by rfl, ?_⟩) (by assumption) ?_
      rotate_left
      · (intro w' hSw; (try dsimp only at hSw); go_simp; try (with_reducible rfl))
      (try simp only [Act.put, List.getElem_toArray, List.getElem_cons_zero, List.getElem_cons_succ, List.setIfInBounds_toArray, List.set_cons_zero, List.set_cons_succ])
      refine wpAnyH_take (i := 13) (v := ?_) rfl (by kernel_rfl) (by kernel_rfl) (by kernel_rfl) (fun _ _ _ h => h) (Or.inl ⟨by rfl, ?_⟩) (by assumption) ?_
      rotate_left
      · (intro w' hSw; (try dsimp only at hSw); go_simp; try (with_reducible rfl))
      (try simp only [Act.put, List.getElem_toArray, List.getElem_cons_zero, List.getElem_cons_succ, List.setIfInBounds_toArray, List.set_cons_zero, List.set_cons_succ])
      refine wpAnyH_take (i := 14) (v := ?_) rfl (by kernel_rfl) (by kernel_rfl) (by kernel_rfl) (fun _ _ _ h => h) (Or.inl ⟨by rfl, ?_⟩) (by assumption) ?_
      rotate_left
      · (intro w' hSw; (try dsimp only at hSw); go_simp; try (with_reducible rfl))
      (try simp only [Act.put, List.getElem_toArray, List.getElem_cons_zero, List.getElem_cons_succ, List.setIfInBounds_toArray, List.set_cons_zero, List.set_cons_succ])
      refine wpAnyH_take (i := 15) (v := ?_) rfl (by kernel_rfl) (by kernel_rfl) (by kernel_rfl) (fun _ _ _ h => h) (Or.inl ⟨by rfl, ?_⟩) (by assumption) ?_
      rotate_left
      · (intro w' hSw; (try dsimp only at hSw); go_simp; try (with_reducible rfl))
      (try simp only [Act.put, List.getElem_toArray, List.getElem_cons_zero, List.getElem_cons_succ, List.setIfInBounds_toArray, List.set_cons_zero, List.set_cons_succ])
      refine wpAnyH_ready (rs := [16]) (by kernel_rfl) (by simp) (AllReadyH.cons rfl (fun KK hK => ?_) AllReadyH.nil)
      go_simp
      go_at_call 13
      refine (Instr_any k0 k1 k2 k3 rn raw _ HRN.out).mono ?_
      rintro e w3 ⟨⟨i, rfl, hin, him⟩, hb3⟩
      have hS := keep6 hHeld hb3
      have HB3 : Hid (Below wr.heap.size wr w3) := hid (bthen (bdrew (bid wr)) hb3)
      have HIN := hid hin
      have HIM := hid him
      clear hHeld hb3 hin him
      dsimp only
      refine hK.out _ _ hS (fun hHeld => ?_)
      clear hK KK
      (try simp only [Act.put, List.getElem_toArray, List.getElem_cons_zero, List.getElem_cons_succ, List.setIfInBounds_toArray, List.set_cons_zero, List.set_cons_succ])
      refine wpAnyH_ready (rs := [17]) (by kernel_rfl) (by simp) (AllReadyH.cons rfl (fun KK hK => ?_) AllReadyH.nil)
      have hS2 := hHeld
      go_simp
      refine hK.out _ _ (keep6 hS2 (bnew (bid _) _)) (fun hHeld => ?_)
      clear hK KK
      (try simp only [Act.put, List.getElem_toArray, List.getElem_cons_zero, List.getElem_cons_succ, List.setIfInBounds_toArray, List.set_cons_zero, List.set_cons_succ])
      refine wpAnyH_ready (rs := [18]) (by kernel_rfl) (by simp) (AllReadyH.cons rfl (fun KK hK => ?_) AllReadyH.nil)
      rw [if_pos (by rfl)]
      refine wp_append_ins (.tmp 11) (.tmp 28) 24 (by rfl) Tryd.underlying24 hi hz0 rfl hz1 hz2 (by rfl) (own_wrote HO.out (Wrote.of_below HB3.out (fun _ => False)) (fun _ _ h => h)) i (by rfl) HQ.out HQ2.out hS.2.size ?_
      intro v' w4 hown' hw'
      have HO4 := hid hown'
      have HB4 : Hid (Below w.heap.size w w4) := hid (hS.2.trans (hw'.below hS.2.size fun q hq e => by have := (HO.out.lt q e).1; omega))
      have hS4 := HKP.out w4 HB4.out
      clear hown' hw' hHeld
      refine hK.out _ _ hS4 (fun hHeld => ?_)
      clear hK KK
      (try simp only [Act.put, List.getElem_toArray, List.getElem_cons_zero, List.getElem_cons_succ, List.setIfInBounds_toArray, List.set_cons_zero, List.set_cons_succ])
      refine wpAnyH_take (i := 19) (v := ?_) rfl (by kernel_rfl) (by kernel_rfl) (by kernel_rfl) (fun _ _ _ h => h) (Or.inl ⟨by rfl, ?_⟩) (by assumption) ?_
      rotate_left
      · (intro w' hSw; (try dsimp only at hSw); go_simp; try (with_reducible rfl))
      (try simp only [Act.put, List.getElem_toArray, List.getElem_cons_zero, List.getElem_cons_succ, List.setIfInBounds_toArray, List.set_cons_zero, List.set_cons_succ])
      refine wpAnyH_done (by kernel_rfl) ?_ _
      refine NoPanic.normal ?_
      go_wp2
      go_roundw
      case rel =>
        refine ⟨k + 1, ps ++ [i], by omega, by go_num, by rw [List.length_append, HPS.out]; rfl, ?_, ?_, HO4.out, HB4.out⟩
        · intro j hj
          rcases List.mem_append.1 hj with hj | hj
          · exact HOK.out j hj
          · simp at hj; subst hj; exact HIN.out
        · intro h
          rw [List.all_append, HMAY.out h]
          simp [HIM.out (h _ (List.mem_of_getElem? HRK.out))]
      case measure => simp [intOf]; omega
    · obtain rfl : k = n := by omega
      have HRT := hid (show ProgRet k rs w (.returned (.slice va k vc)) wr from ⟨va, vc, ps, rfl, InsRow.of_own HO.out, HOK.out, HMAY.out, HB.out⟩)
      clear hlt
      go_wp2
      go_ret
      exact HRT.out

end Go.Proofs.YtkjcppnnfakjkaaDoor
