/-
  An attempt by its plan, in its blocks: what is written, by what was read. An attempt by its plan: what was asked is done. An attempt by its plan: what bounds its counters; what is asked next. An attempt by its plan: the next thing is asked. An attempt by its plan: what a step asks, by where the attempt stands; what the next pick wants. An attempt by its plan: a pick.
-/
import Derived.Test.YtjfinnjmcnjciaaNlR
namespace Go.Proofs.Ytjfinnjmcnjciaa
open Go.RowKit
attribute [local go_sem] Later.cell Later.frozen

abbrev Op3 := Bool × Nat × Int
def kindI (o : Op3) : Int := if o.1 = true then 1 else 0
structure OpAt (w : World) (b o : Nat) (p : Op3) : Prop where
  c0 : w.cell? ⟨b, o, none⟩ = some (.int .i64 (kindI p))
  c1 : w.cell? ⟨b, o + 1, none⟩ = some (.int .i64 (p.2.1 : Int))
  c2 : w.cell? ⟨b, o + 2, none⟩ = some (.int .i64 p.2.2)
/-- A slice that reads as a plan. -/
structure PlRow (w : World) (a : Option Addr) (len : Nat) (pl : Pl) : Prop where
  cnt : pl.length = len
  row : len = 0 ∨ ∃ b off, a = some ⟨b, off, none⟩ ∧ b < w.heap.size ∧ ∀ k p, (pl : List Op3)[k]? = some p → OpAt w b (off + k * 3) p
theorem PlRow.kept {S : Nat → Prop} {w w' : World} {a : Option Addr} {len : Nat} {pl : Pl} (h : PlRow w a len pl) (hw : Wrote S w w') (hs : ∀ x, a = some x → 0 < len → ¬ S x.block) : PlRow w' a len pl := by
  refine ⟨h.cnt, ?_⟩
  rcases h.row with h' | ⟨b, off, rfl, hlt, hc⟩
  · exact .inl h'
  · by_cases h0 : len = 0
    · exact .inl h0
    · refine .inr ⟨b, off, rfl, Nat.lt_of_lt_of_le hlt hw.size, fun k p hk => ?_⟩
      have e := hw.block b hlt (hs _ rfl (by omega))
      have ec : ∀ j, w'.cell? ⟨b, j, none⟩ = w.cell? ⟨b, j, none⟩ := fun j => World.cell?_of_block (a := ⟨b, j, none⟩) e
      obtain ⟨c0, c1, c2⟩ := hc k p hk
      exact ⟨(ec _).trans c0, (ec _).trans c1, (ec _).trans c2⟩
theorem PlRow.at {w : World} {a : Option Addr} {len : Nat} {pl : Pl} (h : PlRow w a len pl) {k : Nat} (hk : k < len) : ∃ b off, a = some ⟨b, off, none⟩ ∧ b < w.heap.size ∧ OpAt w b (off + k * 3) (pl.getD k (false, 0, 0)) := by
  rcases h.row with h' | ⟨b, off, e, hlt, hc⟩
  · omega
  · have hl : k < pl.length := by rw [h.cnt]; exact hk
    refine ⟨b, off, e, hlt, ?_⟩
    have := hc k _ (List.getElem?_eq_getElem hl)
    rw [List.getD_eq_getElem?_getD, List.getElem?_eq_getElem hl]
    exact this
def rdW (rd : List (Nat × Int)) : List Wd := rd.map fun p => ((p.1 : Int), p.2)
theorem rdW_len (rd : List (Nat × Int)) : (rdW rd).length = rd.length := by simp [rdW]
/-- Where its lists lie. -/
structure RL where
  xb : Nat
  pa : Option Addr
  pc : Nat
  vr : Value
def ruC (u : RU) (m : RL) : Array Value := #[.pointer (some ⟨m.xb, 0, none⟩), .slice m.pa u.plan.length m.pc, .int .i64 u.i, .bool u.busy, .int .i64 u.fin, m.vr]
structure RnX (w : World) (ρ : Nat → Nat) (r ub : Nat) (u : RU) (m : RL) : Prop where
  blk : w.heap[ub]? = some (.cells (ruC u m) 46 (0, 0))
  plan : PlRow w m.pa u.plan.length u.plan
  rd : WL w 0 m.vr (rdW u.read)
  u1 : ρ ub = r + 8
  u2 : ∀ k, m.vr.ownBlock = some k → ρ k = r + 9
  u3 : ∀ a, m.pa = some a → 0 < u.plan.length → ρ a.block = r + 10 ∧ a.block < w.heap.size
  il : u.i ≤ 100
  pl : u.plan.length ≤ 50
def OwnR (ρ : Nat → Nat) (r : Nat) : Nat → Prop := fun k => r < ρ k ∧ ρ k < r + 11
section
variable {w w' : World} {ρ ρ' : Nat → Nat} {r ub : Nat} {u u' : RU} {m m' : RL}
theorem RnX.lt (h : RnX w ρ r ub u m) : ub < w.heap.size := lt_of_block h.blk
theorem RnX.kept {S : Nat → Prop} (h : RnX w ρ r ub u m) (hw : Wrote S w w') (hs : ∀ k, r + 7 < ρ k → ρ k < r + 11 → ¬ S k) : RnX w' ρ r ub u m :=
  ⟨(hw.block _ h.lt (hs _ (by rw [h.u1]; omega) (by rw [h.u1]; omega))).trans h.blk, h.plan.kept hw fun a ha hl => hs _ (by rw [(h.u3 a ha hl).1]; omega) (by rw [(h.u3 a ha hl).1]; omega), h.rd.kept hw fun k hk => hs k (by rw [h.u2 k hk]; omega) (by rw [h.u2 k hk]; omega),
    h.u1, h.u2, fun a ha hl => ⟨(h.u3 a ha hl).1, Nat.lt_of_lt_of_le (h.u3 a ha hl).2 hw.size⟩, h.il, h.pl⟩
theorem RnX.below (h : RnX w ρ r ub u m) (hb : Below w.heap.size w w') : RnX w' ρ r ub u m := h.kept (Wrote.of_below hb (fun _ => False)) (fun _ _ _ h => h)
theorem RnX.gr (h : RnX w ρ r ub u m) (hg : Gr ρ ρ' w) : RnX w ρ' r ub u m :=
  ⟨h.blk, h.plan, h.rd, (hg _ h.lt).trans h.u1, fun k hk => (hg k (h.rd.old hk).2).trans (h.u2 k hk), fun a ha hl => ⟨(hg _ (h.u3 a ha hl).2).trans (h.u3 a ha hl).1, (h.u3 a ha hl).2⟩, h.il, h.pl⟩
/-- Its own block turned. -/
theorem RnX.upd (h : RnX w ρ r ub u m) (hb : w'.heap[ub]? = some (.cells (ruC u' m) 46 (0, 0))) (hw : Wrote (fun k => k = ub) w w') (hp : u'.plan = u.plan) (hr : u'.read = u.read) (hi : u'.i ≤ 100) : RnX w' ρ r ub u' m := by
  have h1 := h.u1
  exact ⟨hb, by rw [hp]; exact h.plan.kept hw fun a ha hl e => by have := (h.u3 a ha hl).1; rw [e] at this; omega, by rw [hr]; exact h.rd.kept hw fun k hk e => by subst e; have := h.u2 _ hk; omega, h.u1, h.u2, by rw [hp]; exact fun a ha hl => ⟨(h.u3 a ha hl).1, Nat.lt_of_lt_of_le (h.u3 a ha hl).2 hw.size⟩, hi, by rw [hp]; exact h.pl⟩
theorem RnX.facts (h : RnX w ρ r ub u m) : w.cell? ⟨ub, 0, none⟩ = some (.pointer (some ⟨m.xb, 0, none⟩)) ∧ w.cell? ⟨ub, 1, none⟩ = some (.slice m.pa u.plan.length m.pc) ∧ w.cell? ⟨ub, 2, none⟩ = some (.int .i64 u.i) ∧ w.cell? ⟨ub, 3, none⟩ = some (.bool u.busy) ∧ w.cell? ⟨ub, 4, none⟩ = some (.int .i64 u.fin) ∧ w.cell? ⟨ub, 5, none⟩ = some m.vr ∧ ∀ i, w.frozen? ⟨ub, i, none⟩ = false :=
  ⟨cell_of_blk h.blk 0, cell_of_blk h.blk 1, cell_of_blk h.blk 2, cell_of_blk h.blk 3, cell_of_blk h.blk 4, cell_of_blk h.blk 5, fun i => frozen_of_blk h.blk i⟩
theorem RnX.own (h : RnX w ρ r ub u m) (hw : Wrote (fun k => k = ub) w w') : Wrote (OwnR ρ r) w w' := hw.mono fun k _ e => by subst e; exact ⟨by rw [h.u1]; omega, by rw [h.u1]; omega⟩
end

/-! ### value -/
theorem valR_take {rd : List (Nat × Int)} {j : Nat} {p : Nat × Int} (h : rd[j]? = some p) (a : Nat) (v : Int) : valR (rd.take (j + 1)) a v = if p.1 = a then wrap64 (p.2 + v) else valR (rd.take j) a v := by
  obtain ⟨hl, rfl⟩ := List.getElem?_eq_some_iff.1 h
  unfold valR
  rw [List.take_succ_eq_append_getElem hl, List.foldl_append]
  rfl
theorem rdW_at {rd : List (Nat × Int)} {j : Nat} {p : Nat × Int} (h : rd[j]? = some p) : (rdW rd)[j]? = some ((p.1 : Int), p.2) := by
  unfold rdW; rw [List.getElem?_map, h]; rfl
variable {w w' : World} {ρ ρ' : Nat → Nat} {r ub : Nat} {u u' : RU} {m m' : RL}
structure VlI (w W : World) (k d v : Int) : Prop where
  box : W.heap[w.heap.size]? = some (.cells #[.int .i64 k, .int .i64 d, .int .i64 v] 40 (0, 0))
  below : Below w.heap.size w W
theorem VlI.later {w W W' : World} {k d v : Int} (h : VlI w W k d v) (hb : Below W.heap.size W W') : VlI w W' k d v := ⟨(hb.block _ (lt_of_block h.box)).trans h.box, bthen h.below hb⟩
set_option maxHeartbeats 4000000 in
theorem value_any (k : Int) (d : Nat) (v : Int) (h : RnX w ρ r ub u m) (hrl : u.read.length ≤ 100) :
    Calls Try.prog 101 #[.pointer (some ⟨ub, 0, none⟩), .agg #[.int .i64 k, .int .i64 (d : Int), .int .i64 v]] w fun e w' => e = .returned (.int .i64 (valR u.read d v)) ∧ Below w.heap.size w w' := by
  have H := hid h
  have hlt := h.lt
  obtain ⟨a1, n1, hv, hrow⟩ := h.rd.form
  have HV := hid hv
  rw [rdW_len] at hv hrow
  have HROW := hid hrow
  have HRL := hid hrl
  obtain ⟨n, hn⟩ : ∃ n, n = u.read.length := ⟨_, rfl⟩
  rw [← hn] at hv HROW
  have HN := hid hn
  have HC5 := hid (fun W (hb : Below w.heap.size w W) => show W.cell? ⟨ub, 5, none⟩ = some (.slice a1 n n1) ∧ W.frozen? ⟨ub, 5, none⟩ = false from ⟨by rw [(h.below hb).facts.2.2.2.2.2.1, hv], (h.below hb).facts.2.2.2.2.2.2 5⟩)
  clear h hv hrow hn
  go_enter Try.func101, Try.ntmps101
  go_wp2_with fail
  go_loopw [5, 6] (fun y i W => ∃ j : Nat, j ≤ n ∧ i = .int .i64 j ∧ y = .int .i64 (valR (u.read.take j) d v) ∧ VlI w W k d v) (fun _ i _ => n - (intOf i).toNat)
  case atStart => exact ⟨0, Nat.zero_le _, rfl, rfl, heap_alloc_new _ _, bnew (bid _) _⟩
  case round =>
    obtain ⟨j, hj, rfl, rfl, hk⟩ := hrel
    have HK := hid hk
    have hn100 : n ≤ 100 := by rw [HN.out]; exact HRL.out
    have c5 := (HC5.out _ hk.below).1
    have f5 := (HC5.out _ hk.below).2
    have hlt2 : ub < wr.heap.size := Nat.lt_of_lt_of_le hlt hk.below.size
    have b1 := cell_of_blk hk.box 1
    have b2 := cell_of_blk hk.box 2
    have bl := lt_of_block hk.box
    simp only [List.getElem?_toArray, List.getElem?_cons_zero, List.getElem?_cons_succ] at b1 b2
    clear hk
    by_cases hlt' : j < n
    · obtain ⟨p, hp⟩ : ∃ p, u.read[j]? = some p := ⟨_, List.getElem?_eq_getElem (by rw [← HN.out]; exact hlt')⟩
      obtain ⟨g, off, hbo, hg, hcs⟩ := (HROW.out.below HK.out.below).at (by omega)
      obtain ⟨q0, q1⟩ := hcs j _ (rdW_at hp)
      have HVT := hid (valR_take hp d v)
      have i1 : (0 : Int) ≤ (j : Int) := by omega
      have i2 : (j : Int) < (n : Int) := by omega
      clear hcs hp
      subst hbo
      obtain ⟨p1, p2⟩ := p
      by_cases hpd : p1 = d
      · have he : ((p1 : Int) == (d : Int)) = true := by rw [hpd]; simp
        subst hpd
        rw [if_pos rfl] at HVT
        go_wp2_with fail
        go_quiet (fail)
        go_wp2_with fail
        go_quiet (fail)
        go_wp2_with fail
        go_roundw
        case rel => exact ⟨j + 1, by omega, by go_num, by rw [HVT.out], HK.out.later ⟨rfl, rfl, rfl, Nat.le_refl _, fun _ _ => rfl⟩⟩
        case measure => simp [intOf]; omega
      · have he : ((p1 : Int) == (d : Int)) = false := by rw [beq_eq_false_iff_ne]; omega
        rw [if_neg hpd] at HVT
        go_wp2_with fail
        go_quiet (fail)
        go_wp2_with fail
        go_roundw
        case rel => exact ⟨j + 1, by omega, by go_num, by rw [HVT.out], HK.out.later ⟨rfl, rfl, rfl, Nat.le_refl _, fun _ _ => rfl⟩⟩
        case measure => simp [intOf]; omega
    · obtain rfl : j = n := by omega
      go_wp2_with fail
      go_ret
      exact ⟨by rw [HN.out, List.take_length]; rfl, HK.out.below⟩

end Go.Proofs.Ytjfinnjmcnjciaa

namespace Go.Proofs.Ytjfinnjmcnjciaa
open Go.RowKit
attribute [local go_sem] Later.cell Later.frozen

/-- An attempt by its plan, and the memory. -/
def RX (w : World) (ρ : Nat → Nat) (r ub : Nat) (u : RU) (B mb : Nat) (vw : Value) (s : MS) (N : Nat) : Prop := ∃ p l m, RP p u.x ∧ PXM w ρ r m.xb p l B mb vw s ∧ RnX w ρ r ub u m ∧ p.dn ≤ N ∧ p.asked ≤ N
def RS (ρ : Nat → Nat) (r mb : Nat) (vw : Value) : Nat → Prop := fun k => OwnR ρ r k ∨ MemS mb vw k
def RxRet (w : World) (ρ : Nat → Nat) (r ub : Nat) (u' : RU) (B mb : Nat) (vw : Value) (s' : MS) (N : Nat) (e : Ending) (w' : World) : Prop :=
  e = .returned (.tuple #[]) ∧ ∃ ρ', Gr ρ ρ' w ∧ RX w' ρ' r ub u' B mb vw s' N ∧ Wrote (RS ρ r mb vw) w w'
variable {w w' : World} {ρ ρ' : Nat → Nat} {r ub : Nat} {u u' : RU} {m m' : RL} {p : PT} {l : PL} {B mb : Nat} {vw : Value} {s s' : MS} {N : Nat}
theorem RS.of_ub (h : RnX w ρ r ub u m) (hw : Wrote (fun k => k = ub) w w') : Wrote (RS ρ r mb vw) w w' := (h.own hw).mono fun _ _ h => .inl h
theorem RxRet.from {ρ1 : Nat → Nat} {w1 : World} {e : Ending} (h : RxRet w1 ρ1 r ub u' B mb vw s' N e w') (hg : Gr ρ ρ1 w) (hw : Wrote (RS ρ r mb vw) w w1) : RxRet w ρ r ub u' B mb vw s' N e w' := by
  obtain ⟨h1, ρ', g, x, k⟩ := h
  exact ⟨h1, ρ', hg.trans g hw.size, x, hw.then k fun i hi ho => by unfold RS OwnR at ho ⊢; rw [hg i hi] at ho; exact ho⟩
/-- Where the run's own blocks turn, the attempt and the memory stay. -/
theorem PXM.keep {b : Nat} {x : PT} (h : PXM w ρ r b x l B mb vw s) {S : Nat → Prop} (hw : Wrote S w w') (h1 : ∀ k, S k → k < w.heap.size → r + 7 < ρ k) (h2 : ∀ k, S k → k < w.heap.size → ρ k ≠ 0) : PXM w' ρ r b x l B mb vw s := by
  have hw2 : Wrote (fun k => S k ∧ r + 7 < ρ k) w w' := hw.mono fun k hk hs => ⟨hs, h1 k hs hk⟩
  refine ⟨h.px.kept hw2 fun k ho hs => by have := ho.2; have := hs.2; omega, h.mem.kept hw2 fun k hk hs => ?_, h.m0⟩
  have := h.m0 k hk
  have := hs.2
  omega
/-- One more is read. -/
theorem RnX.readOne (h : RnX w ρ r ub u m) {w2 : World} {v : Value} {q : Nat × Int} (hl : u.read.length < 100) (hv : WL w2 0 v (rdW (u.read ++ [q]))) (hw : Wrote (fun k => m.vr.ownBlock = some k) w w2) (ho : ∀ g, v.ownBlock = some g → m.vr.ownBlock = some g ∨ w.heap.size ≤ g) :
    RnX (w2.setCell ⟨ub, 5, none⟩ v) (newR ρ w.heap.size (r + 9)) r ub { u with read := u.read ++ [q] } { m with vr := v } ∧ Wrote (fun k => m.vr.ownBlock = some k ∨ k = ub) w (w2.setCell ⟨ub, 5, none⟩ v) := by
  have h2 : RnX w (newR ρ w.heap.size (r + 9)) r ub u m := h.gr (newR_gr ρ w (r + 9))
  have hw3 := (Wrote.refl (fun k => k = ub) w2).setCell (p := ⟨ub, 5, none⟩) (fun _ => rfl) v
  have h1 := h2.u1
  have ne : ∀ k, m.vr.ownBlock = some k → newR ρ w.heap.size (r + 9) k = r + 9 := h2.u2
  have hblk2 : w2.heap[ub]? = some (.cells (ruC u m) 46 (0, 0)) := (hw.block _ h2.lt (fun e => by have := ne _ e; omega)).trans h2.blk
  have hwv : WL (w2.setCell ⟨ub, 5, none⟩ v) 0 v (rdW (u.read ++ [q])) := hv.kept hw3 fun k hk e => by
    subst e
    rcases ho _ hk with hk | hk
    · have := ne _ hk; omega
    · have := h2.lt; omega
  have W12 : Wrote (fun k => m.vr.ownBlock = some k ∨ k = ub) w (w2.setCell ⟨ub, 5, none⟩ v) := (hw.mono fun k _ e => .inl e).trans (hw3.mono fun k _ e => .inr e)
  refine ⟨⟨blk_setCell hblk2 5 v, h2.plan.kept W12 fun a ha hl e => ?_, hwv, h2.u1, fun k hk => ?_, fun a ha hl => ⟨(h2.u3 a ha hl).1, Nat.lt_of_lt_of_le (h2.u3 a ha hl).2 W12.size⟩, h2.il, h2.pl⟩, W12⟩
  · have h3 := (h2.u3 a ha hl).1
    rcases e with e | e
    · have := ne _ e; omega
    · rw [e] at h3; omega
  · rcases ho k hk with hk | hk
    · exact ne _ hk
    · exact newR_new hk
theorem append_wl_run {W : World} {v : Value} {ws : List Wd} (ty : TypeId) (hown : WL W 0 v ws) (q : Wd) (h6 : ws.length ≤ 900) :
    ∃ v' w', (Builtin.append_ #[44, 44] ty #[v, .slice (some ⟨W.heap.size, 0, none⟩) 1 1]).run Try.prog (W.alloc (.cells #[.int .i64 q.1, .int .i64 q.2] 51)) = .ok v' w' ∧ WL w' 0 v' (ws ++ [q]) ∧ Wrote (fun b => v.ownBlock = some b) W w' ∧ ∀ g, v'.ownBlock = some g → v.ownBlock = some g ∨ W.heap.size ≤ g := by
  obtain ⟨iI, hi, hz0, hz1, hz2⟩ := info_parts infoWd
  have hb := bnew (bid W) (.cells #[.int .i64 q.1, .int .i64 q.2] 51)
  obtain ⟨v', w', hr, h2, h3, h4, h5⟩ := run_append_own_at (P := Try.prog) (W.alloc (.cells #[.int .i64 q.1, .int .i64 q.2] 51)) 0 44 ty 51 iI (.agg #[.int .i64 0, .int .i64 0]) 2 16 Try.underlying44 hi hz0 hz1 hz2 rfl (by decide) v ws.length (wcells ws) (hown.below hb) ⟨W.heap.size, 0, none⟩ 1 1 [.int .i64 q.1, .int .i64 q.2] (by simp)
    (fun j u hu => by
      match j, hu with
      | 0, hu => simp at hu; subst hu; exact cell_of_blk (heap_alloc_new _ _) 0
      | 1, hu => simp at hu; subst hu; rw [add_at]; exact cell_of_blk (heap_alloc_new _ _) 1)
    (fun u hu => by simp at hu; rcases hu with rfl | rfl <;> rfl) (by unfold maxLen; omega) (by omega) (Nat.zero_le _)
  refine ⟨v', w', hr, ?_, (Wrote.of_below hb _).trans ((Wrote.refl _ _).grown h3 fun j hj _ => hj), fun g hg => ?_⟩
  · unfold WL
    rw [wcells_snoc, List.length_append, List.length_singleton]
    exact h2
  · rcases h5 with h5 | h5
    · exact .inl (by rw [← h5]; exact hg)
    · rw [h5] at hg
      simp only [Option.some.injEq] at hg
      have := size_alloc1 W (.cells #[.int .i64 q.1, .int .i64 q.2] 51)
      exact .inr (by omega)
theorem append_execW {o : Oper} {a : Act} {W w' : World} {v u v' : Value} (s x : Operand) (ho : o.op = .call { callee := .builtin .append, args := #[s, x], argTypes := #[44, 44] }) (hs : a.eval s = v) (hx : a.eval x = u)
    (hr : (Builtin.append_ #[44, 44] o.type #[v, u]).run Try.prog W = .ok v' w') : (execOp a.eval o).run Try.prog W = .ok (.value v') w' := by
  unfold execOp
  simp only [ho, resolve, invoke, builtin, Sem.run_bind, Sem.run_pure, Result.andThen_ok, List.map_toArray, List.map_cons, List.map_nil, hs, hx, hr]
theorem gUpon_appendW {o : Oper} {a : Act} {C : World → Prop} {W w' : World} {v u v' : Value} (s x : Operand) (ho : o.op = .call { callee := .builtin .append, args := #[s, x], argTypes := #[44, 44] }) (hs : a.eval s = v) (hx : a.eval x = u)
    (hr : (Builtin.append_ #[44, 44] o.type #[v, u]).run Try.prog W = .ok v' w') (hc : C w') : gUpon Try.prog C W v' ((execOp a.eval o).run Try.prog W) := by
  rw [append_execW s x ho hs hx hr]; exact ⟨rfl, hc⟩
def DnW (w1 w2 w3 w4 : World) (L : Nat → Bool) (W : World) : Prop := W = bif L 27 then w4 else bif L 24 then w3 else bif L 23 then w2 else w1
theorem DnW.early {w1 w2 w3 w4 : World} {L : Nat → Bool} {W : World} (h : DnW w1 w2 w3 w4 L W) (h24 : L 24 = false) (h27 : L 27 = false) : W = w2 ∨ W = w1 := by
  unfold DnW at h; rw [h24, h27] at h
  cases h23 : L 23 with
  | true => rw [h23] at h; exact .inl h
  | false => rw [h23] at h; exact .inr h
theorem DnW.early2 {w1 w2 w3 w4 : World} {L : Nat → Bool} {W : World} (h : DnW w1 w2 w3 w4 L W) (h23 : L 23 = false) (h24 : L 24 = false) (h27 : L 27 = false) : W = w1 := by
  unfold DnW at h; rw [h24, h27, h23] at h; exact h
/-- Cells that are read here. -/
def DnCells (ub xb g off i k : Nat) (m : RL) (vr : Value) (dd : Int) (pl : Nat) (W : World) : Prop :=
  (W.cell? ⟨ub, 0, none⟩ = some (.pointer (some ⟨xb, 0, none⟩)) ∧ W.cell? ⟨ub, 1, none⟩ = some (.slice (some ⟨g, off, none⟩) pl m.pc) ∧ W.cell? ⟨ub, 2, none⟩ = some (.int .i64 i) ∧ W.cell? ⟨ub, 5, none⟩ = some vr) ∧
  W.cell? ⟨g, off + k * 3 + 1, none⟩ = some (.int .i64 dd) ∧ ∀ j, W.frozen? ⟨ub, j, none⟩ = false

/-- Between two of its stores. -/
structure DnS (w : World) (ρ : Nat → Nat) (r ub : Nat) (p : PT) (l : PL) (m : RL) (B mb : Nat) (vw : Value) (s : MS) (u : RU) (W : World) : Prop where
  px : PXM W ρ r m.xb p l B mb vw s
  rn : RnX W ρ r ub u m
  wrote : Wrote (RS ρ r mb vw) w W
theorem DnS.below {W W' : World} (h : DnS w ρ r ub p l m B mb vw s u W) (hb : Below W.heap.size W W') : DnS w ρ r ub p l m B mb vw s u W' := ⟨h.px.below hb, h.rn.below hb, h.wrote.trans (Wrote.of_below hb _)⟩
theorem DnS.put {W : World} (h : DnS w ρ r ub p l m B mb vw s u W) (i : Nat) (v : Value) (hc : (ruC u m).setIfInBounds i v = ruC u' m) (hp : u'.plan = u.plan) (hr : u'.read = u.read) (hi : u'.i ≤ 100) : DnS w ρ r ub p l m B mb vw s u' (W.setCell ⟨ub, i, none⟩ v) := by
  have hw := (Wrote.refl (fun k => k = ub) W).setCell (p := ⟨ub, i, none⟩) (fun _ => rfl) v
  have hub : ∀ k, k = ub → r + 7 < ρ k := fun k e => by subst e; rw [h.rn.u1]; omega
  exact ⟨h.px.keep hw (fun k e _ => hub k e) (fun k e _ => by have := hub k e; omega), h.rn.upd ((blk_setCell h.rn.blk i v).trans (by rw [hc])) hw hp hr hi, h.wrote.trans (RS.of_ub h.rn hw)⟩
theorem DnS.fin {W : World} (h : DnS w ρ r ub p l m B mb vw s u W) (hp : RP p u.x) (hd : p.dn ≤ N ∧ p.asked ≤ N) : RxRet w ρ r ub u B mb vw s N (.returned (.tuple #[])) W := ⟨rfl, ρ, Gr.refl _ _, ⟨p, l, m, hp, h.px, h.rn, hd.1, hd.2⟩, h.wrote⟩
theorem doneR_fin (h : u.plan.length < u.i) : doneR u = { u with busy := false, fin := 1 } := if_pos h
theorem doneR_on (h : ¬ u.plan.length < u.i) : doneR u = { u with busy := false, read := if 0 < u.i ∧ (u.plan.getD (u.i - 1) (false, 0, 0)).1 = false then u.read ++ [((u.plan.getD (u.i - 1) (false, 0, 0)).2.1, u.x.val)] else u.read, i := u.i + 1 } := if_neg h
set_option maxHeartbeats 4000000 in
theorem done_any (mm : PM) (h : RX w ρ r ub u B mb vw s N) (hrl : u.read.length < 100) (hi : u.i < 100) : Calls Try.prog 63 #[.pointer (some ⟨ub, 0, none⟩), mm.v] w (RxRet w ρ r ub (doneR u) B mb vw s N) := by
  obtain ⟨p, l, m, hp, hx, hn, hd, ha⟩ := h
  have HX := hid hx
  have HP := hid hp
  have HI := hid hi
  have HRL := hid hrl
  have HD := hid (And.intro hd ha)
  obtain ⟨ms, ml, mt, mc, md⟩ := mm
  show Calls _ _ #[_, .agg #[.int .i64 ms, .int .i64 ml, .int .i64 mt, .int .i64 mc, .int .i64 md]] _ _
  have HS := hid (show DnS w ρ r ub p l m B mb vw s u (w.alloc (.cells #[.int .i64 ms, .int .i64 ml, .int .i64 mt, .int .i64 mc, .int .i64 md] 31)) from ⟨hx.below (bnew (bid w) _), hn.below (bnew (bid w) _), Wrote.of_below (bnew (bid w) _) _⟩)
  have c3 := HS.out.rn.facts.2.2.2.1
  have f3 := HS.out.rn.facts.2.2.2.2.2.2 3
  clear hp hx hn hd ha hi hrl
  go_enter Try.func63, Try.ntmps63
  go_upto_region 2 with fail
  refine wp_renamed (DnS w ρ r ub p l m B mb vw s { u with busy := false }) (HS.out.put 3 (.bool false) rfl rfl rfl HS.out.rn.il) ?_
  clear HS c3 f3 HX
  intro W hs
  have HS := hid hs
  have hlt := hs.rn.lt
  have c1 := hs.rn.facts.2.1
  have f1 := hs.rn.facts.2.2.2.2.2.2 1
  have c2 := hs.rn.facts.2.2.1
  have f2 := hs.rn.facts.2.2.2.2.2.2 2
  clear hs
  dsimp only at c1 c2
  by_cases hpl : u.plan.length < u.i
  · have HE := hid (doneR_fin hpl)
    have i1 : (u.plan.length : Int) < (u.i : Int) := by omega
    clear hpl
    go_wp2_with fail
    go_quiet (fail)
    go_upto_region 3 with fail
    refine wp_renamed (DnS w ρ r ub p l m B mb vw s { u with busy := false }) (HS.out.below ⟨rfl, rfl, rfl, Nat.le_refl _, fun _ _ => rfl⟩) ?_
    clear HS c1 c2 f1 f2
    intro V hs
    have HS := hid hs
    have c4 := hs.rn.facts.2.2.2.2.1
    have f4 := hs.rn.facts.2.2.2.2.2.2 4
    clear hs
    go_wp2
    go_end0
    rw [HE.out]
    exact (HS.out.put (u' := { u with busy := false, fin := 1 }) 4 (.int .i64 1) rfl rfl rfl HS.out.rn.il).fin HP.out HD.out
  · have HE := hid (doneR_on hpl)
    have i1 : ¬ (u.plan.length : Int) < (u.i : Int) := by omega
    have HPL := hid hpl
    clear hpl
    go_wp2_with fail
    go_quiet (fail)
    go_upto_region 4 with fail
    refine wp_renamed (DnS w ρ r ub p l m B mb vw s { u with busy := false }) (HS.out.below ⟨rfl, rfl, rfl, Nat.le_refl _, fun _ _ => rfl⟩) ?_
    clear HS c1 c2 f1 f2
    intro V hs
    have HS := hid hs
    have hlt := hs.rn.lt
    have c1 := hs.rn.facts.2.1
    have f1 := hs.rn.facts.2.2.2.2.2.2 1
    have c2 := hs.rn.facts.2.2.1
    have f2 := hs.rn.facts.2.2.2.2.2.2 2
    have hwi : wrap64 ((u.i : Int) + 1) = ((u.i + 1 : Nat) : Int) := by have := HI.out; unfold wrap64; omega
    clear hs
    dsimp only at c1 c2
    by_cases h0 : u.i = 0
    · have HR := hid (show (if 0 < u.i ∧ (u.plan.getD (u.i - 1) (false, 0, 0)).1 = false then u.read ++ [((u.plan.getD (u.i - 1) (false, 0, 0)).2.1, u.x.val)] else u.read) = u.read from if_neg (fun h => by rw [h0] at h; exact absurd h.1 (Nat.lt_irrefl 0)))
      have H0 := hid h0
      have HI1 := hid (show u.i + 1 ≤ 100 from HI.out)
      have n0 : ¬ (0 : Int) < (u.i : Int) := by omega
      have n0b : decide ((0 : Int) < (u.i : Int)) = false := decide_eq_false n0
      have n0c : decide (0 < u.i) = false := decide_eq_false (by omega)
      have hdd : (0 < u.i) = False := by simp; omega
      generalize hui : u.i = ui at c2 n0 n0b n0c hdd hwi
      clear h0
      go_wp2_with fail
      go_quiet (fail)
      go_upto_region 6 with fail
      refine wp_renamed (DnS w ρ r ub p l m B mb vw s { u with busy := false }) (HS.out.below ⟨rfl, rfl, rfl, Nat.le_refl _, fun _ _ => rfl⟩) ?_
      clear hui n0 n0b n0c hdd hwi
      have hwi : wrap64 ((u.i : Int) + 1) = ((u.i + 1 : Nat) : Int) := by have := HI.out; unfold wrap64; omega
      clear HS c1 c2 f1 f2
      intro Y hs
      have HS := hid hs
      have c2 := hs.rn.facts.2.2.1
      have f2 := hs.rn.facts.2.2.2.2.2.2 2
      clear hs
      dsimp only at c2
      generalize hN : u.i + 1 = N1 at *
      generalize u.i = ui at c2 hwi
      go_wp2
      go_end0
      rw [HE.out, HR.out]
      exact (HS.out.put (u' := { u with busy := false, i := N1 }) 2 (.int .i64 ((N1 : Nat) : Int)) rfl rfl rfl HI1.out).fin HP.out HD.out
    · obtain ⟨g, off, hpa, hg, hop⟩ := HS.out.rn.plan.at (k := u.i - 1) (by show u.i - 1 < u.plan.length; have := HPL.out; omega)
      obtain ⟨q0, q1, q2⟩ := hop
      have hpos : 0 < u.i := Nat.pos_of_ne_zero h0
      have HI1 := hid (show u.i + 1 ≤ 100 from HI.out)
      have n0 : (0 : Int) < (u.i : Int) := by omega
      have n1 : wrap64 ((u.i : Int) - 1) = ((u.i - 1 : Nat) : Int) := by have := HI.out; unfold wrap64; omega
      have n2 : (0 : Int) ≤ ((u.i - 1 : Nat) : Int) := by omega
      have n3 : ((u.i - 1 : Nat) : Int) < (u.plan.length : Int) := by have := HPL.out; omega
      dsimp only at q0 q1 q2
      have HPA := hid hpa
      rw [hpa] at c1
      have HB3 := hid (show u.i - 1 < u.plan.length by have := HPL.out; omega)
      cases hk : (u.plan.getD (u.i - 1) (false, 0, 0)).1 with
      | true =>
        have HR := hid (show (if 0 < u.i ∧ true = false then u.read ++ [((u.plan.getD (u.i - 1) (false, 0, 0)).2.1, u.x.val)] else u.read) = u.read from if_neg (fun h => by cases h.2))
        rw [hk] at HE
        rw [show kindI (u.plan.getD (u.i - 1) (false, 0, 0)) = 1 from by unfold kindI; rw [hk]; rfl] at q0
        clear hpa hk h0 q1 q2
        generalize u.i - 1 = k at *
        go_wp2_with fail
        go_quiet (fail)
        go_upto_region 6 with fail
        refine wp_renamed (DnS w ρ r ub p l m B mb vw s { u with busy := false }) (HS.out.below ⟨rfl, rfl, rfl, Nat.le_refl _, fun _ _ => rfl⟩) ?_
        clear HS c1 c2 f1 f2
        intro Y hs
        have HS := hid hs
        have c2 := hs.rn.facts.2.2.1
        have f2 := hs.rn.facts.2.2.2.2.2.2 2
        clear hs
        dsimp only at c2
        generalize hN : u.i + 1 = N1 at *
        generalize u.i = ui at c2 hwi
        go_wp2
        go_end0
        rw [HE.out, HR.out]
        exact (HS.out.put (u' := { u with busy := false, i := N1 }) 2 (.int .i64 ((N1 : Nat) : Int)) rfl rfl rfl HI1.out).fin HP.out HD.out
      | false =>
        have HR := hid (show (if 0 < u.i ∧ false = false then u.read ++ [((u.plan.getD (u.i - 1) (false, 0, 0)).2.1, u.x.val)] else u.read) = u.read ++ [((u.plan.getD (u.i - 1) (false, 0, 0)).2.1, u.x.val)] from if_pos ⟨hpos, rfl⟩)
        rw [hk] at HE
        rw [show kindI (u.plan.getD (u.i - 1) (false, 0, 0)) = 0 from by unfold kindI; rw [hk]; rfl] at q0
        clear hpa hk h0 q2
        go_wp2_with fail
        go_quiet (fail)
        go_upto_region 5 with fail
        refine wp_renamed (DnS w ρ r ub p l m B mb vw s { u with busy := false }) (HS.out.below ⟨rfl, rfl, rfl, Nat.le_refl _, fun _ _ => rfl⟩) ?_
        clear HS c1 c2 f1 f2 q0 q1
        intro Y hs
        have HS1 := hid (hs.below (bdrew (bid _)))
        clear hs
        obtain ⟨oa, oc, hov, _⟩ := HS1.out.rn.rd.form
        dsimp only at hov
        have HOV := hid hov
        obtain ⟨v3, w3, hr3, hl3, hw3, ho3⟩ := append_wl_run 44 HS1.out.rn.rd (((u.plan.getD (u.i - 1) (false, 0, 0)).2.1 : Int), p.val) (by dsimp only; rw [rdW_len]; have := HRL.out; omega)
        obtain ⟨va3, vc3, rfl, _⟩ := hl3.form
        have hpv : p.val = u.x.val := HP.out.same.2.2.2.2.2.2.2.2.2.2.2.2.2.2
        have hl3' : WL w3 0 (.slice va3 (rdW u.read ++ [(((u.plan.getD (u.i - 1) (false, 0, 0)).2.1 : Int), p.val)]).length vc3) (rdW (u.read ++ [((u.plan.getD (u.i - 1) (false, 0, 0)).2.1, p.val)])) := by
          rw [show rdW (u.read ++ [((u.plan.getD (u.i - 1) (false, 0, 0)).2.1, p.val)]) = rdW u.read ++ [(((u.plan.getD (u.i - 1) (false, 0, 0)).2.1 : Int), p.val)] from by simp [rdW]]
          exact hl3
        have HRO := hid (HS1.out.rn.readOne (q := ((u.plan.getD (u.i - 1) (false, 0, 0)).2.1, p.val)) HRL.out hl3' hw3 ho3)
        have HB3' := hid (show w3.heap[ub]? = some (.cells (ruC { u with busy := false } m) 46 (0, 0)) from (hw3.block ub HS1.out.rn.lt (fun e => by have := HS1.out.rn.u2 _ e; have := HS1.out.rn.u1; omega)).trans HS1.out.rn.blk)
        have m1 : w3.cell? ⟨ub, 5, none⟩ = some m.vr := cell_of_blk HB3'.out 5
        have m2 := frozen_of_blk HB3'.out 5
        obtain ⟨g', off', hpa', hg', hop'⟩ := HS1.out.rn.plan.at (k := u.i - 1) HB3.out
        have e9 := HPA.out.symm.trans hpa'
        simp only [Option.some.injEq, Addr.mk.injEq, and_true] at e9
        obtain ⟨rfl, rfl⟩ := e9
        have hq1 := hop'.c1
        dsimp only at hq1
        rw [rdW_len] at hov
        have HAC1 := hid (show DnCells ub m.xb g off u.i (u.i - 1) m (.slice oa u.read.length oc) ((u.plan.getD (u.i - 1) (false, 0, 0)).2.1 : Int) u.plan.length Y.drew from
          ⟨⟨HS1.out.rn.facts.1, by have := HS1.out.rn.facts.2.1; rw [HPA.out] at this; exact this, HS1.out.rn.facts.2.2.1, by have := HS1.out.rn.facts.2.2.2.2.2.1; rw [hov] at this; exact this⟩, hq1, HS1.out.rn.facts.2.2.2.2.2.2⟩)
        have HAC2 := hid (show DnCells ub m.xb g off u.i (u.i - 1) m (.slice oa u.read.length oc) ((u.plan.getD (u.i - 1) (false, 0, 0)).2.1 : Int) u.plan.length (Y.drew.alloc (.cells #[.int .i64 ((u.plan.getD (u.i - 1) (false, 0, 0)).2.1 : Int), .int .i64 p.val] 51)) from by
          have hb := bnew (bid Y.drew) (.cells #[.int .i64 ((u.plan.getD (u.i - 1) (false, 0, 0)).2.1 : Int), .int .i64 p.val] 51)
          have hn := HS1.out.rn.below hb
          exact ⟨⟨hn.facts.1, by have := hn.facts.2.1; rw [HPA.out] at this; exact this, hn.facts.2.2.1, by have := hn.facts.2.2.2.2.2.1; rw [hov] at this; exact this⟩, (hb.cell (p := ⟨g, _, none⟩) hg').trans hq1, hn.facts.2.2.2.2.2.2⟩)
        rw [HOV.out, rdW_len] at hr3
        rw [hov] at m1
        have HVAL := hid (tpValue_any HS1.out.px.px)
        have HPV := hid hpv
        rw [← hpv] at HR
        clear hov hl3 hl3' hw3 ho3 hpa' hg' hop' hq1 hpv
        generalize hw1 : Y.drew = w1 at *
        generalize (rdW u.read ++ [(((u.plan.getD (u.i - 1) (false, 0, 0)).2.1 : Int), p.val)]).length = n3 at hr3 HRO
        generalize hdd : ((u.plan.getD (u.i - 1) (false, 0, 0)).2.1 : Int) = dd at hr3 HAC1 HAC2
        generalize p.val = pv at *
        generalize hon : u.read.length = on at hr3 HAC1 HAC2 m1
        generalize hk1 : u.i - 1 = k at n1 n2 n3 HAC1 HAC2
        generalize hui : u.i = ui at n0 n1 HAC1 HAC2
        generalize hpl1 : u.plan.length = pl at n3 HAC1 HAC2
        have hne1 : Nonempty (Sat (DnCells ub m.xb g off ui k m (.slice oa on oc) dd pl)) := ⟨⟨_, HAC1.out⟩⟩
        have hne2 : Nonempty (Sat (fun _ => True)) := ⟨⟨w, trivial⟩⟩
        have y0 := fun (y : Sat (DnCells ub m.xb g off ui k m (.slice oa on oc) dd pl)) => y.p.1.1
        have y1 := fun (y : Sat (DnCells ub m.xb g off ui k m (.slice oa on oc) dd pl)) => y.p.1.2.1
        have y2 := fun (y : Sat (DnCells ub m.xb g off ui k m (.slice oa on oc) dd pl)) => y.p.1.2.2.1
        have y3 := fun (y : Sat (DnCells ub m.xb g off ui k m (.slice oa on oc) dd pl)) => y.p.1.2.2.2
        have y4 := fun (y : Sat (DnCells ub m.xb g off ui k m (.slice oa on oc) dd pl)) => y.p.2.1
        have yf := fun (y : Sat (DnCells ub m.xb g off ui k m (.slice oa on oc) dd pl)) (i : Nat) => y.p.2.2 i
        refine wp_region_staged (DnW w1 (w1.alloc (.cells #[.int .i64 dd, .int .i64 pv] 51)) w3 (w3.setCell ⟨ub, 5, none⟩ (.slice va3 n3 vc3))) (by kernel_rfl) (by kernel_rfl) (fun L hL => by unfold DnW; rw [hL, hL, hL]; exact hw1) ?_
        refine wpS_plain (fun _ => True) (fun _ _ _ _ _ => trivial) (fun _ _ h => h) rfl rfl ?_
        intro KK hKK
        go_big_quiet_op
        go_big_quiet_on
        refine wpS_plain (fun _ => True) (fun _ _ _ _ _ => trivial) (fun _ _ h => h) rfl rfl ?_
        intro KK hKK
        go_big_quiet_op
        go_big_quiet_on
        refine wpS_value (.pointer (some ⟨ub, 0, none⟩)) rfl (fun _ => by go_simp) (fun _ _ h => h) ?_
        (try simp only [Act.put, List.getElem_toArray, List.getElem_cons_zero, List.getElem_cons_succ, List.setIfInBounds_toArray, List.set_cons_zero, List.set_cons_succ])
        refine wpS_plain (fun _ => True) (fun _ _ _ _ _ => trivial) (fun _ _ h => h) rfl rfl ?_
        intro KK hKK
        go_big_quiet_op
        go_big_quiet_on
        refine wpS_plain (DnCells ub m.xb g off ui k m (.slice oa on oc) dd pl) (fun L W hL hcl hd => by have h24 := hcl.no hL (j := 24) (by kernel_rfl); have h27 := hcl.no h24 (j := 27) (by kernel_rfl); exact (DnW.early hd h24 h27).elim (fun e => by rw [e]; exact HAC2.out) (fun e => by rw [e]; exact HAC1.out)) (fun _ _ h => h) rfl rfl ?_
        intro KK hKK
        go_big_quiet_op
        go_big_quiet_on
        refine wpS_plain (fun _ => True) (fun _ _ _ _ _ => trivial) (fun _ _ h => h) rfl rfl ?_
        intro KK hKK
        go_big_quiet_op
        go_big_quiet_on
        refine wpS_value (.pointer (some ⟨ub, 0, none⟩)) rfl (fun _ => by go_simp) (fun _ _ h => h) ?_
        (try simp only [Act.put, List.getElem_toArray, List.getElem_cons_zero, List.getElem_cons_succ, List.setIfInBounds_toArray, List.set_cons_zero, List.set_cons_succ])
        refine wpS_plain (fun _ => True) (fun _ _ _ _ _ => trivial) (fun _ _ h => h) rfl rfl ?_
        intro KK hKK
        go_big_quiet_op
        go_big_quiet_on
        refine wpS_plain (DnCells ub m.xb g off ui k m (.slice oa on oc) dd pl) (fun L W hL hcl hd => by have h14 := hcl.no hL (j := 14) (by kernel_rfl); have h15 := hcl.no h14 (j := 15) (by kernel_rfl); have h16 := hcl.no h15 (j := 16) (by kernel_rfl); have h22 := hcl.no h16 (j := 22) (by kernel_rfl); have h23 := hcl.no h22 (j := 23) (by kernel_rfl); have h24 := hcl.no h23 (j := 24) (by kernel_rfl); have h27 := hcl.no h24 (j := 27) (by kernel_rfl); exact (DnW.early hd h24 h27).elim (fun e => by rw [e]; exact HAC2.out) (fun e => by rw [e]; exact HAC1.out)) (fun _ _ h => h) rfl rfl ?_
        intro KK hKK
        go_big_quiet_op
        go_big_quiet_on
        refine wpS_plain (fun _ => True) (fun _ _ _ _ _ => trivial) (fun _ _ h => h) rfl rfl ?_
        intro KK hKK
        go_big_quiet_op
        go_big_quiet_on
        refine wpS_value (.pointer (some ⟨ub, 0, none⟩)) rfl (fun _ => by go_simp) (fun _ _ h => h) ?_
        (try simp only [Act.put, List.getElem_toArray, List.getElem_cons_zero, List.getElem_cons_succ, List.setIfInBounds_toArray, List.set_cons_zero, List.set_cons_succ])
        refine wpS_plain (fun _ => True) (fun _ _ _ _ _ => trivial) (fun _ _ h => h) rfl rfl ?_
        intro KK hKK
        go_big_quiet_op
        go_big_quiet_on
        refine wpS_plain (DnCells ub m.xb g off ui k m (.slice oa on oc) dd pl) (fun L W hL hcl hd => by have h13 := hcl.no hL (j := 13) (by kernel_rfl); have h14 := hcl.no h13 (j := 14) (by kernel_rfl); have h15 := hcl.no h14 (j := 15) (by kernel_rfl); have h16 := hcl.no h15 (j := 16) (by kernel_rfl); have h22 := hcl.no h16 (j := 22) (by kernel_rfl); have h23 := hcl.no h22 (j := 23) (by kernel_rfl); have h24 := hcl.no h23 (j := 24) (by kernel_rfl); have h27 := hcl.no h24 (j := 27) (by kernel_rfl); exact (DnW.early hd h24 h27).elim (fun e => by rw [e]; exact HAC2.out) (fun e => by rw [e]; exact HAC1.out)) (fun _ _ h => h) rfl rfl ?_
        intro KK hKK
        go_big_quiet_op
        go_big_quiet_on
        refine wpS_plain (fun _ => True) (fun _ _ _ _ _ => trivial) (fun _ _ h => h) rfl rfl ?_
        intro KK hKK
        go_big_quiet_op
        go_big_quiet_on
        refine wpS_plain (fun _ => True) (fun _ _ _ _ _ => trivial) (fun _ _ h => h) rfl rfl ?_
        intro KK hKK
        go_big_quiet_op
        go_big_quiet_on
        refine wpS_plain (fun _ => True) (fun _ _ _ _ _ => trivial) (fun _ _ h => h) rfl rfl ?_
        intro KK hKK
        go_big_quiet_op
        go_big_quiet_on
        refine wpS_plain (DnCells ub m.xb g off ui k m (.slice oa on oc) dd pl) (fun L W hL hcl hd => by have h22 := hcl.no hL (j := 22) (by kernel_rfl); have h23 := hcl.no h22 (j := 23) (by kernel_rfl); have h24 := hcl.no h23 (j := 24) (by kernel_rfl); have h27 := hcl.no h24 (j := 27) (by kernel_rfl); exact (DnW.early hd h24 h27).elim (fun e => by rw [e]; exact HAC2.out) (fun e => by rw [e]; exact HAC1.out)) (fun _ _ h => h) rfl rfl ?_
        intro KK hKK
        go_big_quiet_op
        go_big_quiet_on
        refine wpS_plain (fun _ => True) (fun _ _ _ _ _ => trivial) (fun _ _ h => h) rfl rfl ?_
        intro KK hKK
        go_big_quiet_op
        go_big_quiet_on
        refine wpS_value (.pointer (some ⟨ub, 0, none⟩)) rfl (fun _ => by go_simp) (fun _ _ h => h) ?_
        (try simp only [Act.put, List.getElem_toArray, List.getElem_cons_zero, List.getElem_cons_succ, List.setIfInBounds_toArray, List.set_cons_zero, List.set_cons_succ])
        refine wpS_plain (fun _ => True) (fun _ _ _ _ _ => trivial) (fun _ _ h => h) rfl rfl ?_
        intro KK hKK
        go_big_quiet_op
        go_big_quiet_on
        refine wpS_plain (DnCells ub m.xb g off ui k m (.slice oa on oc) dd pl) (fun L W hL hcl hd => by have h21 := hcl.no hL (j := 21) (by kernel_rfl); have h22 := hcl.no h21 (j := 22) (by kernel_rfl); have h23 := hcl.no h22 (j := 23) (by kernel_rfl); have h24 := hcl.no h23 (j := 24) (by kernel_rfl); have h27 := hcl.no h24 (j := 27) (by kernel_rfl); exact (DnW.early hd h24 h27).elim (fun e => by rw [e]; exact HAC2.out) (fun e => by rw [e]; exact HAC1.out)) (fun _ _ h => h) rfl rfl ?_
        intro KK hKK
        go_big_quiet_op
        go_big_quiet_on
        refine wpS_call 56 #[.pointer (some ⟨m.xb, 0, none⟩)] (.int .i64 pv) rfl (fun _ => by go_simp) ?_ ?_
        · intro L W hL hcl hd
          have h22 := hcl.no hL (j := 22) (by kernel_rfl)
          have h23 := hcl.no h22 (j := 23) (by kernel_rfl)
          have h24 := hcl.no h23 (j := 24) (by kernel_rfl)
          have h27 := hcl.no h24 (j := 27) (by kernel_rfl)
          have hW := DnW.early2 hd h23 h24 h27
          rw [hW]
          refine HVAL.out.mono ?_
          rintro e w'' ⟨rfl, rfl⟩
          refine ⟨rfl, ?_⟩
          unfold DnW
          rw [bump_ne _ (by decide), bump_ne _ (by decide), bump_ne _ (by decide), h27, h24, h23]
          rfl
        (try simp only [Act.put, List.getElem_toArray, List.getElem_cons_zero, List.getElem_cons_succ, List.setIfInBounds_toArray, List.set_cons_zero, List.set_cons_succ])
        refine wpS_value (.agg #[.int .i64 dd, .int .i64 pv]) rfl (fun _ => by go_simp) (fun _ _ h => h) ?_
        (try simp only [Act.put, List.getElem_toArray, List.getElem_cons_zero, List.getElem_cons_succ, List.setIfInBounds_toArray, List.set_cons_zero, List.set_cons_succ])
        refine ⟨.slice (some ⟨w1.heap.size, 0, none⟩) 1 1, .inl ⟨rfl, fun L W hL hcl hd => ?_⟩, ?_⟩
        · have h24 := hcl.no hL (j := 24) (by kernel_rfl)
          have h27 := hcl.no h24 (j := 27) (by kernel_rfl)
          obtain rfl : W = w1 := DnW.early2 hd hL h24 h27
          go_simp
          refine ⟨rfl, ?_⟩
          unfold DnW
          rw [bump_ne _ (by decide), bump_ne _ (by decide), bump_at, h27, h24]
          rfl
        (try simp only [Act.put, List.getElem_toArray, List.getElem_cons_zero, List.getElem_cons_succ, List.setIfInBounds_toArray, List.set_cons_zero, List.set_cons_succ])
        refine ⟨.slice va3 n3 vc3, .inl ⟨rfl, fun L W hL hcl hd => ?_⟩, ?_⟩
        · have h27 := hcl.no hL (j := 27) (by kernel_rfl)
          have h23 := hcl.dep (i := 23) (by kernel_rfl)
          obtain rfl : W = w1.alloc (.cells #[.int .i64 dd, .int .i64 pv] 51) := by unfold DnW at hd; rw [h27, hL, h23] at hd; exact hd
          refine gUpon_appendW (.tmp 44) (.tmp 63) rfl rfl rfl hr3 ?_
          unfold DnW
          rw [bump_ne _ (by decide), bump_at, h27]
          rfl
        (try simp only [Act.put, List.getElem_toArray, List.getElem_cons_zero, List.getElem_cons_succ, List.setIfInBounds_toArray, List.set_cons_zero, List.set_cons_succ])
        refine wpS_value (.pointer (some ⟨ub, 0, none⟩)) rfl (fun _ => by go_simp) (fun _ _ h => h) ?_
        (try simp only [Act.put, List.getElem_toArray, List.getElem_cons_zero, List.getElem_cons_succ, List.setIfInBounds_toArray, List.set_cons_zero, List.set_cons_succ])
        refine wpS_plain (fun _ => True) (fun _ _ _ _ _ => trivial) (fun _ _ h => h) rfl rfl ?_
        intro KK hKK
        go_big_quiet_op
        go_big_quiet_on
        refine wpS_store rfl ?_ ?_
        · intro L W hL hcl hd
          have h24 := hcl.dep (i := 24) (by kernel_rfl)
          obtain rfl : W = w3 := by unfold DnW at hd; rw [hL, h24] at hd; exact hd
          refine ⟨W.setCell ⟨ub, 5, none⟩ (.slice va3 n3 vc3), by go_simp, ?_⟩
          unfold DnW
          rw [bump_at]
          rfl
        (try simp only [Act.put, List.getElem_toArray, List.getElem_cons_zero, List.getElem_cons_succ, List.setIfInBounds_toArray, List.set_cons_zero, List.set_cons_succ])
        intro L W hall hd
        have HWE := hid (show W = w3.setCell ⟨ub, 5, none⟩ (.slice va3 n3 vc3) from by unfold DnW at hd; rw [hall 27 (by decide)] at hd; exact hd)
        clear hd hall y0 y1 y2 y3 y4 yf hne1 hne2
        obtain ⟨hrn, hw12⟩ := HRO.out
        rw [← HWE.out] at hrn hw12
        have hgr := newR_gr ρ w1 (r + 9)
        have hpx1 : PXM w1 (newR ρ w1.heap.size (r + 9)) r m.xb p l B mb vw s := HS1.out.px.turn (HS1.out.px.px.gr hgr) hgr (Wrote.refl _ _)
        have hub2 : ∀ k, (m.vr.ownBlock = some k ∨ k = ub) → k < w1.heap.size → newR ρ w1.heap.size (r + 9) k = r + 9 ∨ newR ρ w1.heap.size (r + 9) k = r + 8 := fun k e hk => by
          rw [newR_old hk]
          rcases e with e | e
          · exact .inl (HS1.out.rn.u2 k e)
          · subst e; exact .inr HS1.out.rn.u1
        have HS := hid (show DnS w1 (newR ρ w1.heap.size (r + 9)) r ub p l { m with vr := .slice va3 n3 vc3 } B mb vw s { u with busy := false, read := u.read ++ [((u.plan.getD (u.i - 1) (false, 0, 0)).2.1, pv)] } W from
          ⟨hpx1.keep hw12 (fun k e hk => by rcases hub2 k e hk with h | h <;> omega) (fun k e hk => by rcases hub2 k e hk with h | h <;> omega), hrn, hw12.mono fun k hk e => .inl (by rcases hub2 k e hk with h | h <;> exact ⟨by omega, by omega⟩)⟩)
        have HGR := hid (fun k (hk : k < w.heap.size) => hgr k (Nat.lt_of_lt_of_le hk HS1.out.wrote.size))
        have HW1 := hid HS1.out.wrote
        have hwi : wrap64 ((u.i : Int) + 1) = ((u.i + 1 : Nat) : Int) := by have := HI.out; unfold wrap64; omega
        clear hrn hw12 hgr hpx1 hub2 HRO HS1 HAC1 HAC2 HB3' m1 m2 hr3 HVAL HWE hui hk1 hpl1 hon hdd n0 n1 n2
        go_upto_region 6 with fail
        refine wp_renamed (DnS w1 (newR ρ w1.heap.size (r + 9)) r ub p l { m with vr := .slice va3 n3 vc3 } B mb vw s { u with busy := false, read := u.read ++ [((u.plan.getD (u.i - 1) (false, 0, 0)).2.1, pv)] }) HS.out ?_
        clear HS
        intro Z hs
        have HS := hid hs
        have c2 := hs.rn.facts.2.2.1
        have f2 := hs.rn.facts.2.2.2.2.2.2 2
        clear hs
        dsimp only at c2
        generalize hN : u.i + 1 = N1 at *
        generalize u.i = ui at c2 hwi
        go_wp2
        go_end0
        rw [HE.out, ← HPV.out, HR.out]
        exact RxRet.from ((HS.out.put (u' := { u with busy := false, read := u.read ++ [((u.plan.getD (u.i - 1) (false, 0, 0)).2.1, pv)], i := N1 }) 2 (.int .i64 ((N1 : Nat) : Int)) rfl rfl rfl HI1.out).fin HP.out HD.out) HGR.out HW1.out

end Go.Proofs.Ytjfinnjmcnjciaa

namespace Go.Proofs.Ytjfinnjmcnjciaa
open Go.RowKit
attribute [local go_sem] Later.cell Later.frozen

theorem passP_dn (x : PT) (p : Int) : (passP x p).dn = x.dn := by
  unfold passP
  split
  · rfl
  · split
    · rfl
    · split
      · rfl
      · split <;> rfl
theorem passP_asked (x : PT) (p : Int) : (passP x p).asked = x.asked := by
  unfold passP
  split
  · rfl
  · split
    · rfl
    · split
      · rfl
      · split <;> rfl
theorem goQ_keep : ∀ (ps : List Int) (x : PT), (goQ ps x).2.dn ≤ x.dn ∧ (goQ ps x).2.asked = x.asked
  | [], x => ⟨Nat.le_refl _, rfl⟩
  | p :: ps, x => by
    unfold goQ
    split
    · exact ⟨Nat.le_refl _, rfl⟩
    · obtain ⟨h1, h2⟩ := goQ_keep ps (passP { x with parts := ps, dn := 0 } p)
      rw [passP_dn] at h1
      rw [passP_asked] at h2
      exact ⟨Nat.le_trans h1 (Nat.zero_le _), h2⟩
theorem goP_keep : ∀ (ps : List Int) (x : PT), (goP ps x).2.dn ≤ x.dn ∧ (goP ps x).2.asked = x.asked
  | [], x => ⟨Nat.le_refl _, rfl⟩
  | p :: ps, x => by
    unfold goP
    split
    · exact ⟨Nat.le_refl _, rfl⟩
    · split
      · obtain ⟨h1, h2⟩ := goQ_keep [10, 11] { passP { x with parts := ps, dn := 0 } p with alive := false, cause := passC { x with parts := ps, dn := 0 } p, made := 0, parts := [10, 11], dn := 0 }
        exact ⟨Nat.le_trans h1 (Nat.zero_le _), h2.trans (passP_asked { x with parts := ps, dn := 0 } p)⟩
      · obtain ⟨h1, h2⟩ := goP_keep ps (passP { x with parts := ps, dn := 0 } p)
        rw [passP_dn] at h1
        rw [passP_asked] at h2
        exact ⟨Nat.le_trans h1 (Nat.zero_le _), h2⟩
def Bd (p : PT) (N : Nat) : Prop := p.dn ≤ N ∧ p.asked ≤ N
theorem goP_bd {x : PT} {N : Nat} (ps : List Int) (h0 : x.dn ≤ N) (h : x.asked ≤ N) : Bd (goP ps x).2 N := ⟨Nat.le_trans (goP_keep ps x).1 h0, by rw [(goP_keep ps x).2]; exact h⟩
theorem askP_bd {x : PT} {N : Nat} (ps : List Int) (h : x.asked ≤ N) : Bd (askP x ps).2 N := goP_bd ps (Nat.zero_le _) h
theorem abortP_bd {x : PT} {N : Nat} (c : Int) (h : x.asked ≤ N) : Bd (abortP x c).2 N := ⟨Nat.le_trans (goQ_keep _ _).1 (Nat.zero_le _), by unfold abortP; rw [(goQ_keep _ _).2]; exact h⟩
theorem Bd.mono {p : PT} {N M : Nat} (h : Bd p N) (hm : N ≤ M) : Bd p M := ⟨Nat.le_trans h.1 hm, Nat.le_trans h.2 hm⟩
theorem Bd.begin {p : PT} {N : Nat} (h : Bd p N) : Bd (pBegin p).2 (N + 1) := by
  unfold pBegin
  split
  · exact h.mono (Nat.le_succ _)
  · exact askP_bd _ (Nat.zero_le _)
theorem askN_le (ws : List Wd) (k : Int) (n : Nat) : askN ws k n ≤ n + 1 := by unfold askN; split <;> omega
theorem Bd.read {p : PT} {N : Nat} (h : Bd p N) (a : Int) : Bd (pRead p a).2 (N + 1) := by
  have h2 : askN p.ws a p.asked ≤ N + 1 := Nat.le_trans (askN_le _ _ _) (by have := h.2; omega)
  unfold pRead
  split
  · split
    · exact ⟨Nat.le_trans h.1 (Nat.le_succ _), h2⟩
    · split
      · exact abortP_bd _ h2
      · exact askP_bd _ h2
  · exact h.mono (Nat.le_succ _)
theorem Bd.write {p : PT} {N : Nat} (h : Bd p N) (a v : Int) : Bd (pWrite p a v).2 (N + 1) := by
  have h2 : p.asked ≤ N + 1 := Nat.le_trans h.2 (Nat.le_succ _)
  unfold pWrite
  split
  · split
    · exact abortP_bd _ h2
    · split
      · exact h.mono (Nat.le_succ _)
      · exact abortP_bd _ h2
  · exact h.mono (Nat.le_succ _)
theorem Bd.commit {p : PT} {N : Nat} (h : Bd p N) : Bd (pCommit p).2 (N + 1) := by
  have h2 : p.asked ≤ N + 1 := Nat.le_trans h.2 (Nat.le_succ _)
  unfold pCommit
  split
  · split
    · exact askP_bd _ h2
    · exact askP_bd _ h2
  · exact h.mono (Nat.le_succ _)
theorem Bd.kill {p : PT} {N : Nat} (h : Bd p N) (c : Int) : Bd (pKill p c).2 (N + 1) := by
  have h2 : p.asked ≤ N + 1 := Nat.le_trans h.2 (Nat.le_succ _)
  unfold pKill
  split
  · exact abortP_bd _ h2
  · exact h.mono (Nat.le_succ _)
theorem accP_asked (s : MS) (x : PT) {p : Int} (hp : isPart p) (i : Nat) : (accP s x p i).2.1.asked = x.asked := by
  rcases hp with rfl | rfl | rfl | rfl | rfl | rfl | rfl | rfl | rfl | rfl | rfl | rfl | rfl | rfl | rfl | rfl | rfl
  case inr.inr.inr.inr.inr.inr.inr.inl =>
    cases hok : s.okAt x.seqP x.stamp with
    | true => rw [acc7_yes hok]
    | false => rw [acc7_no hok]
  all_goals rfl
theorem Bd.step {p : PT} {N : Nat} (h : Bd p N) (s : MS) (ha : ∀ q ∈ p.parts, isPart q) : Bd (pStep s p).2.1 (N + 1) := by
  unfold pStep
  split
  · exact h.mono (Nat.le_succ _)
  · rename_i q ps hq
    have hq' := ha q (by rw [hq]; exact List.mem_cons_self)
    have h2 : (accP s p q p.dn).2.1.asked ≤ N + 1 := by rw [accP_asked s p hq']; exact Nat.le_trans h.2 (Nat.le_succ _)
    unfold stepsP
    split
    · exact goP_bd _ (by show p.dn + 1 ≤ N + 1; have := h.1; omega) h2
    · split
      · exact goP_bd _ (Nat.zero_le _) h2
      · split
        · exact goP_bd _ (Nat.zero_le _) h2
        · exact abortP_bd _ h2

/-- What asking the next thing wants. -/
structure AskOk (u : RU) : Prop where
  m : u.x.m = mT
  at4 : ∀ o, 1 ≤ u.i → u.i ≤ u.plan.length → u.plan.getD (u.i - 1) (false, 0, 0) = o → o.2.1 < 4
  rl : u.read.length < 100
  il : u.i < 100

end Go.Proofs.Ytjfinnjmcnjciaa

namespace Go.Proofs.Ytjfinnjmcnjciaa
open Go.RowKit
attribute [local go_sem] Later.cell Later.frozen

variable {w w' : World} {ρ ρ' : Nat → Nat} {r ub : Nat} {u u' : RU} {m m' : RL} {p : PT} {l : PL} {B mb : Nat} {vw : Value} {s s' : MS} {N : Nat}
/-- Behind the attempt's own call. -/
structure AkS (w : World) (ρ : Nat → Nat) (r ub : Nat) (u : RU) (m : RL) (p : PT) (B mb : Nat) (vw : Value) (s : MS) (ρ1 : Nat → Nat) (l1 : PL) (W : World) : Prop where
  px : PXM W ρ1 r m.xb p l1 B mb vw s
  rn : RnX W ρ1 r ub u m
  gr : Gr ρ ρ1 w
  wrote : Wrote (RS ρ r mb vw) w W
theorem AkS.of {W W2 : World} {q : Int × PT} {e : Ending} (h : DnS w ρ r ub p l m B mb vw s u W) (ht : TpRet W ρ r m.xb q e W2) : ∃ ρ1 l1, AkS w ρ r ub u m q.2 B mb vw s ρ1 l1 W2 := by
  obtain ⟨_, ρ1, l1, g, x, k⟩ := ht
  refine ⟨ρ1, l1, h.px.turn x g k, ?_, fun i hi => g i (Nat.lt_of_lt_of_le hi h.wrote.size), h.wrote.trans (k.mono fun i _ ho => .inl ⟨ho.1, by have := ho.2; omega⟩)⟩
  exact (h.rn.gr g).kept (S := fun i => Own ρ r i ∧ i < W.heap.size) (k.mono fun i hi ho => ⟨ho, hi⟩) fun i h1 h2 ho => by
    have := ho.1.2
    rw [g i ho.2] at h1
    omega
theorem AkS.put {ρ1 : Nat → Nat} {l1 : PL} {W : World} (h : AkS w ρ r ub u m p B mb vw s ρ1 l1 W) (hub : ub < w.heap.size) (i : Nat) (v : Value) (hc : (ruC u m).setIfInBounds i v = ruC u' m) (hp : u'.plan = u.plan) (hr : u'.read = u.read) (hi : u'.i ≤ 100) : AkS w ρ r ub u' m p B mb vw s ρ1 l1 (W.setCell ⟨ub, i, none⟩ v) := by
  have hd : DnS W ρ1 r ub p l1 m B mb vw s u W := ⟨h.px, h.rn, Wrote.refl _ _⟩
  have hd2 := hd.put i v hc hp hr hi
  refine ⟨hd2.px, hd2.rn, h.gr, h.wrote.trans ((Wrote.refl (fun k => k = ub) W).setCell (p := ⟨ub, i, none⟩) (fun _ => rfl) v |>.mono fun k _ e => .inl ?_)⟩
  subst e
  have := h.rn.u1
  rw [h.gr _ hub] at this
  exact ⟨by omega, by omega⟩
theorem AkS.rx {ρ1 : Nat → Nat} {l1 : PL} {W : World} (h : AkS w ρ r ub u m p B mb vw s ρ1 l1 W) (hp : RP p u.x) (hd : Bd p N) : RX W ρ1 r ub u B mb vw s N := ⟨p, l1, m, hp, h.px, h.rn, hd.1, hd.2⟩
theorem AkS.fin {ρ1 : Nat → Nat} {l1 : PL} {W : World} (h : AkS w ρ r ub u m p B mb vw s ρ1 l1 W) (hp : RP p u.x) (hd : Bd p N) : RxRet w ρ r ub u B mb vw s N (.returned (.tuple #[])) W := ⟨rfl, ρ1, h.gr, h.rx hp hd, h.wrote⟩
theorem AkS.below {ρ1 : Nat → Nat} {l1 : PL} {W W' : World} (h : AkS w ρ r ub u m p B mb vw s ρ1 l1 W) (hb : Below W.heap.size W W') : AkS w ρ r ub u m p B mb vw s ρ1 l1 W' := ⟨h.px.below hb, h.rn.below hb, h.gr, h.wrote.trans (Wrote.of_below hb _)⟩
theorem tookC_1 (u : RU) : tookC u 1 = doneR u := if_pos rfl
theorem tookC_2 (u : RU) : tookC u 2 = { u with fin := 2 } := (if_neg (by decide)).trans (if_pos rfl)
theorem tookC_n (u : RU) {c : Int} (h1 : c ≠ 1) (h2 : c ≠ 2) : tookC u c = u := (if_neg h1).trans (if_neg h2)
/-- The box of the map, and all as it was. -/
structure AkB (w : World) (ρ ρ0 : Nat → Nat) (r ub : Nat) (p : PT) (l : PL) (m : RL) (B mb : Nat) (vw : Value) (s : MS) (u : RU) (g0 : Nat) (W : World) : Prop where
  dn : DnS W ρ0 r ub p l m B mb vw s u W
  map : W.heap[g0]? = some (.cells #[.int .i64 3, .int .i64 1, .int .i64 3, .int .i64 0, .int .i64 4] 31 (0, 0))
  g : ρ0 g0 = r + 11
  gr : Gr ρ ρ0 w
  wrote : Wrote (RS ρ r mb vw) w W
theorem AkB.start (hx : PXM w ρ r m.xb p l B mb vw s) (hn : RnX w ρ r ub u m) : AkB w ρ (newR ρ w.heap.size (r + 11)) r ub p l m B mb vw s u w.heap.size (w.alloc (.cells #[.int .i64 3, .int .i64 1, .int .i64 3, .int .i64 0, .int .i64 4] 31)) := by
  have hg := newR_gr ρ w (r + 11)
  have hb := bnew (bid w) (.cells #[.int .i64 3, .int .i64 1, .int .i64 3, .int .i64 0, .int .i64 4] 31)
  exact ⟨⟨(hx.turn (hx.px.gr hg) hg (Wrote.refl _ _)).below hb, (hn.gr hg).below hb, Wrote.refl _ _⟩, heap_alloc_new _ _, newR_new (Nat.le_refl _), hg, Wrote.of_below hb _⟩
theorem AkB.mapAt {ρ0 : Nat → Nat} {g0 : Nat} {W V : World} (h : AkB w ρ ρ0 r ub p l m B mb vw s u g0 W) (hw : Wrote (RS ρ0 r mb vw) W V) : V.heap[g0]? = some (.cells #[.int .i64 3, .int .i64 1, .int .i64 3, .int .i64 0, .int .i64 4] 31 (0, 0)) := by
  refine (hw.block _ (lt_of_block h.map) fun hs => ?_).trans h.map
  have hg := h.g
  rcases hs with hs | hs
  · have := hs.2; omega
  · have := h.dn.px.m0 _ hs; omega
theorem AkB.later {ρ0 : Nat → Nat} {g0 : Nat} {W V : World} (h : AkB w ρ ρ0 r ub p l m B mb vw s u g0 W) (hb : Below W.heap.size W V) : AkB w ρ ρ0 r ub p l m B mb vw s u g0 V :=
  ⟨⟨h.dn.px.below hb, h.dn.rn.below hb, Wrote.refl _ _⟩, (hb.block _ (lt_of_block h.map)).trans h.map, h.g, h.gr, h.wrote.trans (Wrote.of_below hb _)⟩
/-- The worlds in which what is to be written is copied: exactly these. -/
def OpW (w1 w2 w3 : World) (L : Nat → Bool) (W : World) : Prop := W = bif L 12 then w3 else bif L 11 then w2 else w1
theorem OpW.early {w1 w2 w3 : World} {L : Nat → Bool} {W : World} (h : OpW w1 w2 w3 L W) (h12 : L 12 = false) : W = w2 ∨ W = w1 := by
  unfold OpW at h; rw [h12] at h
  cases h11 : L 11 with
  | true => rw [h11] at h; exact .inl h
  | false => rw [h11] at h; exact .inr h
def OpCells (ub g off i k : Nat) (pc pl : Nat) (dd zz : Int) (W : World) : Prop :=
  (W.cell? ⟨ub, 1, none⟩ = some (.slice (some ⟨g, off, none⟩) pl pc) ∧ W.cell? ⟨ub, 2, none⟩ = some (.int .i64 i)) ∧ (W.cell? ⟨g, off + k * 3, none⟩ = some (.int .i64 1) ∧ W.cell? ⟨g, off + k * 3 + 1, none⟩ = some (.int .i64 dd) ∧ W.cell? ⟨g, off + k * 3 + 2, none⟩ = some (.int .i64 zz)) ∧ ∀ j, W.frozen? ⟨ub, j, none⟩ = false

set_option maxHeartbeats 4000000 in
set_option maxRecDepth 100000 in
theorem ask_any (h : RX w ρ r ub u B mb vw s N) (ok : AskOk u) (hN : N ≤ 90000) : Calls Try.prog 62 #[.pointer (some ⟨ub, 0, none⟩), mT.v] w (RxRet w ρ r ub (askR u) B mb vw s (N + 1)) := by
  obtain ⟨p, l, m, hp, hx, hn, hd, ha⟩ := h
  show Calls _ _ #[_, .agg #[.int .i64 3, .int .i64 1, .int .i64 3, .int .i64 0, .int .i64 4]] _ _
  have HP := hid hp
  have HI := hid hn.il
  have HPL := hid hn.pl
  have HRL := hid ok.rl
  have HIL := hid ok.il
  have HOK := hid ok
  have HBD := hid (show Bd p N from ⟨hd, ha⟩)
  have HS0 := hid (AkB.start hx hn)
  clear hp hx hn hd ha ok
  go_enter Try.func62, Try.ntmps62
  go_upto_region 4 with fail
  refine wp_renamed (AkB w ρ (newR ρ w.heap.size (r + 11)) r ub p l m B mb vw s u w.heap.size) HS0.out ?_
  clear HS0
  generalize newR ρ w.heap.size (r + 11) = ρ0
  generalize w.heap.size = g0
  intro W hs
  have HS := hid hs
  clear hs
  have HUB := hid HS.out.dn.rn.lt
  have hlt := HS.out.dn.rn.lt
  have c0 := HS.out.dn.rn.facts.1
  have f0 := HS.out.dn.rn.facts.2.2.2.2.2.2 0
  have c2 := HS.out.dn.rn.facts.2.2.1
  have f2 := HS.out.dn.rn.facts.2.2.2.2.2.2 2
  have c1 := HS.out.dn.rn.facts.2.1
  have f1 := HS.out.dn.rn.facts.2.2.2.2.2.2 1
  by_cases h0 : u.i = 0
  · have HC := hid (HP.out.begin)
    obtain ⟨pq, hpq⟩ : ∃ pq, pq = pBegin p := ⟨_, rfl⟩
    obtain ⟨q, hq⟩ : ∃ q, q = txBegin u.x := ⟨_, rfl⟩
    have HE := hid (show askR u = tookC { u with x := q.2, busy := decide (q.1 = 0) } q.1 from by unfold askR; rw [show askC u = q from (if_pos h0).trans hq.symm])
    have HQ := hid (show pq.1 = q.1 ∧ RP pq.2 q.2 from by rw [hpq, hq]; exact HC.out)
    have HBQ := hid (show Bd pq.2 (N + 1) from by rw [hpq]; exact HBD.out.begin)
    have HCALL := hid (tpBegin_any HS.out.dn.px.px)
    rw [← hpq] at HCALL
    rw [h0] at c2
    clear hpq hq HC c1 f1
    go_upto_region 10 with (go_at_call 55; go_must ((with_reducible refine HCALL.out.mono ?_); rintro e w5 ⟨rfl, hr⟩; have HR := hid hr; clear hr))
    obtain ⟨ρ1, l1, ha⟩ := AkS.of HS.out.dn ⟨rfl, HR.out⟩
    have hqq : pq.1 = q.1 := HQ.out.1
    rw [hqq]
    have HA := hid ha
    clear ha hqq HCALL HR c0 f0 c2 f2
    have c3 := HA.out.rn.facts.2.2.2.1
    have f3 := HA.out.rn.facts.2.2.2.2.2.2 3
    go_upto_region 11 with fail
    refine wp_renamed (AkS W ρ0 r ub { u with x := q.2, busy := decide (q.1 = 0) } m pq.2 B mb vw s ρ1 l1) (HA.out.put (u' := { u with x := q.2, busy := decide (q.1 = 0) }) HUB.out 3 (.bool (decide (q.1 = 0))) rfl rfl rfl HI.out) ?_
    clear HA c3 f3
    intro V ha
    have HA := hid ha
    have HQ2 := hid HQ.out.2
    clear ha
    by_cases k1 : q.1 = 1
    · have HT := hid (show tookC { u with x := q.2, busy := decide (q.1 = 0) } q.1 = doneR { u with x := q.2, busy := decide (q.1 = 0) } from by rw [k1]; exact tookC_1 _)
      have HDN := hid (done_any (w := V) (N := N + 1) mT (HA.out.rx HQ2.out HBQ.out) HRL.out HIL.out)
      generalize hq1 : q.1 = qc at *
      subst k1
      have bx := HS.out.mapAt HA.out.wrote
      have x0 := cell_of_blk bx 0
      have x1 := cell_of_blk bx 1
      have x2 := cell_of_blk bx 2
      have x3 := cell_of_blk bx 3
      have x4 := cell_of_blk bx 4
      have xf0 := frozen_of_blk bx 0
      have xf1 := frozen_of_blk bx 1
      have xf2 := frozen_of_blk bx 2
      have xf3 := frozen_of_blk bx 3
      have xf4 := frozen_of_blk bx 4
      simp only [List.getElem?_toArray, List.getElem?_cons_zero, List.getElem?_cons_succ] at x0 x1 x2 x3 x4
      clear bx
      go_wp2_with (go_at_call 63; go_must ((with_reducible refine HDN.out.mono ?_); rintro e w9 ⟨rfl, hr⟩; have HR := hid hr; clear hr))
      go_end0
      rw [HE.out, HT.out]
      exact (RxRet.from (w1 := V) (ρ1 := ρ1) ⟨rfl, HR.out⟩ HA.out.gr HA.out.wrote).from HS.out.gr HS.out.wrote
    · by_cases k2 : q.1 = 2
      · have HT := hid (show tookC { u with x := q.2, busy := decide (q.1 = 0) } q.1 = { u with x := q.2, busy := decide (q.1 = 0), fin := 2 } from by rw [k2]; exact tookC_2 _)
        generalize hq1 : q.1 = qc at *
        subst k2
        have c4 := HA.out.rn.facts.2.2.2.2.1
        have f4 := HA.out.rn.facts.2.2.2.2.2.2 4
        go_wp2_with fail
        go_end0
        rw [HE.out, HT.out]
        exact (HA.out.put (u' := { u with x := q.2, busy := decide ((2 : Int) = 0), fin := 2 }) HUB.out 4 (.int .i64 2) rfl rfl rfl HI.out).fin HQ2.out HBQ.out |>.from HS.out.gr HS.out.wrote
      · have HT := hid (show tookC { u with x := q.2, busy := decide (q.1 = 0) } q.1 = { u with x := q.2, busy := decide (q.1 = 0) } from tookC_n _ k1 k2)
        have k1b : (q.1 == 1) = false := by simpa using k1
        have k2b : (q.1 == 2) = false := by simpa using k2
        generalize q.1 = qc at *
        go_wp2_with fail
        go_end0
        rw [HE.out, HT.out]
        exact (HA.out.fin HQ2.out HBQ.out).from HS.out.gr HS.out.wrote
  · have n0 : ((u.i : Int) == 0) = false := by rw [beq_eq_false_iff_ne]; omega
    have n0b : ¬ (u.i : Int) = 0 := by omega
    by_cases hpl : u.plan.length < u.i
    · have HC := hid (HP.out.commit)
      obtain ⟨pq, hpq⟩ : ∃ pq, pq = pCommit p := ⟨_, rfl⟩
      obtain ⟨q, hq⟩ : ∃ q, q = txCommit u.x := ⟨_, rfl⟩
      have HE := hid (show askR u = tookC { u with x := q.2, busy := decide (q.1 = 0) } q.1 from by unfold askR; rw [show askC u = q from (if_neg h0).trans ((if_pos hpl).trans hq.symm)])
      have HQ := hid (show pq.1 = q.1 ∧ RP pq.2 q.2 from by rw [hpq, hq]; exact HC.out)
      have HBQ := hid (show Bd pq.2 (N + 1) from by rw [hpq]; exact HBD.out.commit)
      have i1 : (u.plan.length : Int) < (u.i : Int) := by omega
      clear hq HC hpl
      go_wp2_with fail
      go_quiet (fail)
      go_upto_region 7 with fail
      refine wp_renamed (AkB w ρ ρ0 r ub p l m B mb vw s u g0) (HS.out.later ⟨rfl, rfl, rfl, Nat.le_refl _, fun _ _ => rfl⟩) ?_
      clear HS HUB hlt c0 f0 c1 f1 c2 f2
      intro W hs
      have HS := hid hs
      clear hs
      have HUB := hid HS.out.dn.rn.lt
      have hlt := HS.out.dn.rn.lt
      have c0 := HS.out.dn.rn.facts.1
      have f0 := HS.out.dn.rn.facts.2.2.2.2.2.2 0
      have c2 := HS.out.dn.rn.facts.2.2.1
      have f2 := HS.out.dn.rn.facts.2.2.2.2.2.2 2
      have c1 := HS.out.dn.rn.facts.2.1
      have f1 := HS.out.dn.rn.facts.2.2.2.2.2.2 1
      have HCALL := hid (tpCommit_any HS.out.dn.px.px)
      rw [← hpq] at HCALL
      clear hpq
      go_upto_region 10 with (go_at_call 57; go_must ((with_reducible refine HCALL.out.mono ?_); rintro e w5 ⟨rfl, hr⟩; have HR := hid hr; clear hr))
      obtain ⟨ρ1, l1, ha⟩ := AkS.of HS.out.dn ⟨rfl, HR.out⟩
      have hqq : pq.1 = q.1 := HQ.out.1
      rw [hqq]
      have HA := hid ha
      clear ha hqq HCALL HR c0 f0 c1 f1 c2 f2
      have c3 := HA.out.rn.facts.2.2.2.1
      have f3 := HA.out.rn.facts.2.2.2.2.2.2 3
      go_upto_region 11 with fail
      refine wp_renamed (AkS W ρ0 r ub { u with x := q.2, busy := decide (q.1 = 0) } m pq.2 B mb vw s ρ1 l1) (HA.out.put (u' := { u with x := q.2, busy := decide (q.1 = 0) }) HUB.out 3 (.bool (decide (q.1 = 0))) rfl rfl rfl HI.out) ?_
      clear HA c3 f3
      intro V ha
      have HA := hid ha
      have HQ2 := hid HQ.out.2
      clear ha
      by_cases k1 : q.1 = 1
      · have HT := hid (show tookC { u with x := q.2, busy := decide (q.1 = 0) } q.1 = doneR { u with x := q.2, busy := decide (q.1 = 0) } from by rw [k1]; exact tookC_1 _)
        have HDN := hid (done_any (w := V) (N := N + 1) mT (HA.out.rx HQ2.out HBQ.out) HRL.out HIL.out)
        generalize hq1 : q.1 = qc at *
        subst k1
        have bx := HS.out.mapAt HA.out.wrote
        have x0 := cell_of_blk bx 0
        have x1 := cell_of_blk bx 1
        have x2 := cell_of_blk bx 2
        have x3 := cell_of_blk bx 3
        have x4 := cell_of_blk bx 4
        have xf0 := frozen_of_blk bx 0
        have xf1 := frozen_of_blk bx 1
        have xf2 := frozen_of_blk bx 2
        have xf3 := frozen_of_blk bx 3
        have xf4 := frozen_of_blk bx 4
        simp only [List.getElem?_toArray, List.getElem?_cons_zero, List.getElem?_cons_succ] at x0 x1 x2 x3 x4
        clear bx
        go_wp2_with (go_at_call 63; go_must ((with_reducible refine HDN.out.mono ?_); rintro e w9 ⟨rfl, hr⟩; have HR := hid hr; clear hr))
        go_end0
        rw [HE.out, HT.out]
        exact (RxRet.from (w1 := V) (ρ1 := ρ1) ⟨rfl, HR.out⟩ HA.out.gr HA.out.wrote).from HS.out.gr HS.out.wrote
      · by_cases k2 : q.1 = 2
        · have HT := hid (show tookC { u with x := q.2, busy := decide (q.1 = 0) } q.1 = { u with x := q.2, busy := decide (q.1 = 0), fin := 2 } from by rw [k2]; exact tookC_2 _)
          generalize hq1 : q.1 = qc at *
          subst k2
          have c4 := HA.out.rn.facts.2.2.2.2.1
          have f4 := HA.out.rn.facts.2.2.2.2.2.2 4
          go_wp2_with fail
          go_end0
          rw [HE.out, HT.out]
          exact (HA.out.put (u' := { u with x := q.2, busy := decide ((2 : Int) = 0), fin := 2 }) HUB.out 4 (.int .i64 2) rfl rfl rfl HI.out).fin HQ2.out HBQ.out |>.from HS.out.gr HS.out.wrote
        · have HT := hid (show tookC { u with x := q.2, busy := decide (q.1 = 0) } q.1 = { u with x := q.2, busy := decide (q.1 = 0) } from tookC_n _ k1 k2)
          have k1b : (q.1 == 1) = false := by simpa using k1
          have k2b : (q.1 == 2) = false := by simpa using k2
          generalize q.1 = qc at *
          go_wp2_with fail
          go_end0
          rw [HE.out, HT.out]
          exact (HA.out.fin HQ2.out HBQ.out).from HS.out.gr HS.out.wrote
    · have HPLN := hid hpl
      have i1 : ¬ (u.plan.length : Int) < (u.i : Int) := by omega
      obtain ⟨o, ho⟩ : ∃ o, u.plan.getD (u.i - 1) (false, 0, 0) = o := ⟨_, rfl⟩
      have ho4 := HOK.out.at4 o (by omega) (by omega) ho
      have hin : 0 ≤ dataP o.2.1 ∧ dataP o.2.1 < u.x.m.size := by rw [HOK.out.m, mT_size]; unfold dataP; omega
      have n1 : wrap64 ((u.i : Int) - 1) = ((u.i - 1 : Nat) : Int) := by have := HIL.out; unfold wrap64; omega
      have n2 : (0 : Int) ≤ ((u.i - 1 : Nat) : Int) := by omega
      have n3 : ((u.i - 1 : Nat) : Int) < (u.plan.length : Int) := by omega
      have HK := hid (show u.i - 1 < u.plan.length by omega)
      have HOO := hid ho
      have HDA := hid (fun V => (show Calls Try.prog 20 #[.agg #[.int .i64 3, .int .i64 1, .int .i64 3, .int .i64 0, .int .i64 4], .int .i64 (o.2.1 : Int)] V (fun e w' => e = .returned (.int .i64 (dataP o.2.1)) ∧ Below V.heap.size V w') from by have := Data_any mT (o.2.1 : Int) V; rw [mT_data ho4] at this; exact this))
      go_wp2_with fail
      go_quiet (fail)
      go_upto_region 8 with fail
      refine wp_renamed (AkB w ρ ρ0 r ub p l m B mb vw s u g0) (HS.out.later ⟨rfl, rfl, rfl, Nat.le_refl _, fun _ _ => rfl⟩) ?_
      clear HS HUB hlt c0 f0 c1 f1 c2 f2
      intro W hs
      have HS := hid hs
      clear hs
      have HUB := hid HS.out.dn.rn.lt
      have hlt := HS.out.dn.rn.lt
      have c0 := HS.out.dn.rn.facts.1
      have f0 := HS.out.dn.rn.facts.2.2.2.2.2.2 0
      have c2 := HS.out.dn.rn.facts.2.2.1
      have f2 := HS.out.dn.rn.facts.2.2.2.2.2.2 2
      have c1 := HS.out.dn.rn.facts.2.1
      have f1 := HS.out.dn.rn.facts.2.2.2.2.2.2 1
      obtain ⟨g, off, hpa, hg, hop⟩ := HS.out.dn.rn.plan.at HK.out
      rw [HOO.out] at hop
      obtain ⟨q0, q1, q2⟩ := hop
      rw [hpa] at c1
      have HPA := hid hpa
      cases hw : o.1 with
      | false =>
        rw [show kindI o = 0 from by unfold kindI; rw [hw]; rfl] at q0
        have HC := hid (HP.out.read (dataP o.2.1))
        obtain ⟨pq, hpq⟩ : ∃ pq, pq = pRead p (dataP o.2.1) := ⟨_, rfl⟩
        obtain ⟨q, hq⟩ : ∃ q, q = txRead u.x (dataP o.2.1) := ⟨_, rfl⟩
        have HE := hid (show askR u = tookC { u with x := q.2, busy := decide (q.1 = 0) } q.1 from by unfold askR; rw [show askC u = q from by unfold askC; rw [if_neg h0, if_neg hpl, ho, if_pos hw, ← hq]])
        have HQ := hid (show pq.1 = q.1 ∧ RP pq.2 q.2 from by rw [hpq, hq]; exact HC.out)
        have HBQ := hid (show Bd pq.2 (N + 1) from by rw [hpq]; exact HBD.out.read _)
        clear hq HC hpl hpa ho hw hin q1 q2
        generalize hk1 : u.i - 1 = k at q0 n1 n2 n3
        go_wp2_with fail
        go_quiet (fail)
        go_upto_region 9 with fail
        refine wp_renamed (AkB w ρ ρ0 r ub p l m B mb vw s u g0) (HS.out.later ⟨rfl, rfl, rfl, Nat.le_refl _, fun _ _ => rfl⟩) ?_
        clear HS HUB hlt c0 f0 c1 f1 c2 f2
        intro W hs
        have HS := hid hs
        clear hs
        have HUB := hid HS.out.dn.rn.lt
        have hlt := HS.out.dn.rn.lt
        have c0 := HS.out.dn.rn.facts.1
        have f0 := HS.out.dn.rn.facts.2.2.2.2.2.2 0
        have c2 := HS.out.dn.rn.facts.2.2.1
        have f2 := HS.out.dn.rn.facts.2.2.2.2.2.2 2
        have c1 := HS.out.dn.rn.facts.2.1
        have f1 := HS.out.dn.rn.facts.2.2.2.2.2.2 1
        obtain ⟨g', off', hpa', hg', hop'⟩ := HS.out.dn.rn.plan.at HK.out
        have e9 := HPA.out.symm.trans hpa'
        simp only [Option.some.injEq, Addr.mk.injEq, and_true] at e9
        obtain ⟨rfl, rfl⟩ := e9
        rw [HOO.out] at hop'
        obtain ⟨_, q1, _⟩ := hop'
        rw [HPA.out] at c1
        rw [hk1] at q1
        have x0 := cell_of_blk HS.out.map 0
        have x1 := cell_of_blk HS.out.map 1
        have x2 := cell_of_blk HS.out.map 2
        have x3 := cell_of_blk HS.out.map 3
        have x4 := cell_of_blk HS.out.map 4
        have xf0 := frozen_of_blk HS.out.map 0
        have xf1 := frozen_of_blk HS.out.map 1
        have xf2 := frozen_of_blk HS.out.map 2
        have xf3 := frozen_of_blk HS.out.map 3
        have xf4 := frozen_of_blk HS.out.map 4
        have xl := lt_of_block HS.out.map
        simp only [List.getElem?_toArray, List.getElem?_cons_zero, List.getElem?_cons_succ] at x0 x1 x2 x3 x4
        clear hpa'
        refine wp_region_later_tail 18 (by kernel_rfl) (by kernel_rfl) ?_
        simp only [List.take_succ_cons, List.take_zero, List.drop_succ_cons, List.drop_zero]
        repeat (go_big_quiet_step ((go_at_call 20; with_reducible exact later_call (HDA.out _))))
        refine wpQuiet_nil ?_
        rintro _ ⟨y, rfl⟩
        have HS2 := hid (HS.out.later y.below)
        clear HS HUB hlt x0 x1 x2 x3 x4 xf0 xf1 xf2 xf3 xf4 xl c0 f0 c1 f1 c2 f2 q1 hg'
        generalize y.v = W2 at *
        have HS := hid HS2.out
        clear HS2
        have HUB := hid HS.out.dn.rn.lt
        have HCALL := hid (tpRead_any (dataP o.2.1) HS.out.dn.px.px (by have := HBD.out.2; omega))
        rw [← hpq] at HCALL
        clear hpq
        go_upto_region 10 with (go_at_call 31; go_must ((with_reducible refine HCALL.out.mono ?_); rintro e w5 ⟨rfl, hr⟩; have HR := hid hr; clear hr))
        obtain ⟨ρ1, l1, ha⟩ := AkS.of HS.out.dn ⟨rfl, HR.out⟩
        have hqq : pq.1 = q.1 := HQ.out.1
        rw [hqq]
        have HA := hid ha
        clear ha hqq HCALL HR
        have c3 := HA.out.rn.facts.2.2.2.1
        have f3 := HA.out.rn.facts.2.2.2.2.2.2 3
        go_upto_region 11 with fail
        refine wp_renamed (AkS W2 ρ0 r ub { u with x := q.2, busy := decide (q.1 = 0) } m pq.2 B mb vw s ρ1 l1) (HA.out.put (u' := { u with x := q.2, busy := decide (q.1 = 0) }) HUB.out 3 (.bool (decide (q.1 = 0))) rfl rfl rfl HI.out) ?_
        clear HA c3 f3
        intro V ha
        have HA := hid ha
        have HQ2 := hid HQ.out.2
        clear ha
        by_cases k1 : q.1 = 1
        · have HT := hid (show tookC { u with x := q.2, busy := decide (q.1 = 0) } q.1 = doneR { u with x := q.2, busy := decide (q.1 = 0) } from by rw [k1]; exact tookC_1 _)
          have HDN := hid (done_any (w := V) (N := N + 1) mT (HA.out.rx HQ2.out HBQ.out) HRL.out HIL.out)
          generalize hq1 : q.1 = qc at *
          subst k1
          have bx := HS.out.mapAt HA.out.wrote
          have x0 := cell_of_blk bx 0
          have x1 := cell_of_blk bx 1
          have x2 := cell_of_blk bx 2
          have x3 := cell_of_blk bx 3
          have x4 := cell_of_blk bx 4
          have xf0 := frozen_of_blk bx 0
          have xf1 := frozen_of_blk bx 1
          have xf2 := frozen_of_blk bx 2
          have xf3 := frozen_of_blk bx 3
          have xf4 := frozen_of_blk bx 4
          simp only [List.getElem?_toArray, List.getElem?_cons_zero, List.getElem?_cons_succ] at x0 x1 x2 x3 x4
          clear bx
          go_wp2_with (go_at_call 63; go_must ((with_reducible refine HDN.out.mono ?_); rintro e w9 ⟨rfl, hr⟩; have HR := hid hr; clear hr))
          go_end0
          rw [HE.out, HT.out]
          exact (RxRet.from (w1 := V) (ρ1 := ρ1) ⟨rfl, HR.out⟩ HA.out.gr HA.out.wrote).from HS.out.gr HS.out.wrote
        · by_cases k2 : q.1 = 2
          · have HT := hid (show tookC { u with x := q.2, busy := decide (q.1 = 0) } q.1 = { u with x := q.2, busy := decide (q.1 = 0), fin := 2 } from by rw [k2]; exact tookC_2 _)
            generalize hq1 : q.1 = qc at *
            subst k2
            have c4 := HA.out.rn.facts.2.2.2.2.1
            have f4 := HA.out.rn.facts.2.2.2.2.2.2 4
            go_wp2_with fail
            go_end0
            rw [HE.out, HT.out]
            exact (HA.out.put (u' := { u with x := q.2, busy := decide ((2 : Int) = 0), fin := 2 }) HUB.out 4 (.int .i64 2) rfl rfl rfl HI.out).fin HQ2.out HBQ.out |>.from HS.out.gr HS.out.wrote
          · have HT := hid (show tookC { u with x := q.2, busy := decide (q.1 = 0) } q.1 = { u with x := q.2, busy := decide (q.1 = 0) } from tookC_n _ k1 k2)
            have k1b : (q.1 == 1) = false := by simpa using k1
            have k2b : (q.1 == 2) = false := by simpa using k2
            generalize q.1 = qc at *
            go_wp2_with fail
            go_end0
            rw [HE.out, HT.out]
            exact (HA.out.fin HQ2.out HBQ.out).from HS.out.gr HS.out.wrote
      | true =>
        rw [show kindI o = 1 from by unfold kindI; rw [hw]; rfl] at q0
        have HC := hid (HP.out.write (dataP o.2.1) (valR u.read o.2.1 o.2.2))
        obtain ⟨pq, hpq⟩ : ∃ pq, pq = pWrite p (dataP o.2.1) (valR u.read o.2.1 o.2.2) := ⟨_, rfl⟩
        obtain ⟨q, hq⟩ : ∃ q, q = txWrite u.x (dataP o.2.1) (valR u.read o.2.1 o.2.2) := ⟨_, rfl⟩
        have HE := hid (show askR u = tookC { u with x := q.2, busy := decide (q.1 = 0) } q.1 from by unfold askR; rw [show askC u = q from by unfold askC; rw [if_neg h0, if_neg hpl, ho, if_neg (by rw [hw]; decide), ← hq]])
        have HQ := hid (show pq.1 = q.1 ∧ RP pq.2 q.2 from by rw [hpq, hq]; exact HC.out)
        have HBQ := hid (show Bd pq.2 (N + 1) from by rw [hpq]; exact HBD.out.write _ _)
        have HKI := hid (show kindI o = 1 from by unfold kindI; rw [hw]; rfl)
        clear hq HC hpl hpa ho hw hin q1 q2
        generalize hk1 : u.i - 1 = k at q0 n1 n2 n3
        go_wp2_with fail
        go_quiet (fail)
        go_upto_region 2 with fail
        refine wp_renamed (AkB w ρ ρ0 r ub p l m B mb vw s u g0) (HS.out.later ⟨rfl, rfl, rfl, Nat.le_refl _, fun _ _ => rfl⟩) ?_
        clear HS HUB hlt c0 f0 c1 f1 c2 f2
        intro W hs
        have HS := hid hs
        clear hs
        have HUB := hid HS.out.dn.rn.lt
        have hlt := HS.out.dn.rn.lt
        have HS1 := hid (HS.out.later (bdrew (bid W)))
        obtain ⟨g', off', hpa', hg', hop'⟩ := HS1.out.dn.rn.plan.at HK.out
        have e9 := HPA.out.symm.trans hpa'
        simp only [Option.some.injEq, Addr.mk.injEq, and_true] at e9
        obtain ⟨rfl, rfl⟩ := e9
        rw [HOO.out] at hop'
        have hcells : ∀ V, AkB w ρ ρ0 r ub p l m B mb vw s u g0 V → OpAt V g (off + (u.i - 1) * 3) o → OpCells ub g off u.i (u.i - 1) m.pc u.plan.length (o.2.1 : Int) o.2.2 V := fun V hv ho => by
          have h1 := hv.dn.rn.facts.2.1
          rw [HPA.out] at h1
          have h2 := ho.c0
          rw [HKI.out] at h2
          exact ⟨⟨h1, hv.dn.rn.facts.2.2.1⟩, ⟨h2, ho.c1, ho.c2⟩, hv.dn.rn.facts.2.2.2.2.2.2⟩
        have hb2 := bnew (bid W.drew) (.cells #[.int .i64 0, .int .i64 0, .int .i64 0] 40)
        have hop2 : OpAt (W.drew.alloc (.cells #[.int .i64 0, .int .i64 0, .int .i64 0] 40)) g (off + (u.i - 1) * 3) o := ⟨(hb2.cell (p := ⟨g, _, none⟩) hg').trans hop'.c0, (hb2.cell (p := ⟨g, _, none⟩) hg').trans hop'.c1, (hb2.cell (p := ⟨g, _, none⟩) hg').trans hop'.c2⟩
        have HAC1 := hid (hcells _ HS1.out hop')
        have HAC2 := hid (hcells _ (HS1.out.later hb2) hop2)
        have HS3 := hid (HS1.out.later (bnew (bid W.drew) (.cells #[.int .i64 1, .int .i64 (o.2.1 : Int), .int .i64 o.2.2] 40)))
        have HBO := hid (heap_alloc_new W.drew (.cells #[.int .i64 1, .int .i64 (o.2.1 : Int), .int .i64 o.2.2] 40))
        have HVV := hid (fun V (hv : AkB w ρ ρ0 r ub p l m B mb vw s u g0 V) => value_any 1 o.2.1 o.2.2 hv.dn.rn (Nat.le_of_lt HRL.out))
        clear hcells hb2 hop2 hop' hpa' hg' HS1
        generalize valR u.read o.2.1 o.2.2 = vv at *
        generalize hw1 : W.drew = w1 at *
        generalize hdd : (o.2.1 : Int) = dd at *
        generalize hzz : o.2.2 = zz at *
        rw [hk1] at HAC1 HAC2
        generalize hui : u.i = ui at n1 HAC1 HAC2
        generalize hpl1 : u.plan.length = pl at n3 HAC1 HAC2
        have hne1 : Nonempty (Sat (OpCells ub g off ui k m.pc pl dd zz)) := ⟨⟨_, HAC1.out⟩⟩
        have hne2 : Nonempty (Sat (fun _ => True)) := ⟨⟨w, trivial⟩⟩
        have y0 := fun (y : Sat (OpCells ub g off ui k m.pc pl dd zz)) => y.p.1.1
        have y1 := fun (y : Sat (OpCells ub g off ui k m.pc pl dd zz)) => y.p.1.2
        have y2 := fun (y : Sat (OpCells ub g off ui k m.pc pl dd zz)) => y.p.2.1.1
        have y3 := fun (y : Sat (OpCells ub g off ui k m.pc pl dd zz)) => y.p.2.1.2.1
        have y4 := fun (y : Sat (OpCells ub g off ui k m.pc pl dd zz)) => y.p.2.1.2.2
        have yf := fun (y : Sat (OpCells ub g off ui k m.pc pl dd zz)) (i : Nat) => y.p.2.2 i
        refine wp_region_staged (OpW w1 (w1.alloc (.cells #[.int .i64 0, .int .i64 0, .int .i64 0] 40)) (w1.alloc (.cells #[.int .i64 1, .int .i64 dd, .int .i64 zz] 40))) (by kernel_rfl) (by kernel_rfl) (fun L hL => by unfold OpW; rw [hL, hL]; exact hw1) ?_
        refine wpS_plain (fun _ => True) (fun _ _ _ _ _ => trivial) (fun _ _ h => h) rfl rfl ?_
        intro KK hKK
        go_big_quiet_op
        go_big_quiet_on
        refine wpS_value (.pointer (some ⟨ub, 0, none⟩)) rfl (fun _ => by go_simp) (fun _ _ h => h) ?_
        (try simp only [Act.put, List.getElem_toArray, List.getElem_cons_zero, List.getElem_cons_succ, List.setIfInBounds_toArray, List.set_cons_zero, List.set_cons_succ])
        refine wpS_plain (fun _ => True) (fun _ _ _ _ _ => trivial) (fun _ _ h => h) rfl rfl ?_
        intro KK hKK
        go_big_quiet_op
        go_big_quiet_on
        refine wpS_plain (OpCells ub g off ui k m.pc pl dd zz) (fun L W hL hcl hd => by have h9 := hcl.no hL (j := 9) (by kernel_rfl); have h10 := hcl.no h9 (j := 10) (by kernel_rfl); have h12 := hcl.no h10 (j := 12) (by kernel_rfl); exact (OpW.early hd h12).elim (fun e => by rw [e]; exact HAC2.out) (fun e => by rw [e]; exact HAC1.out)) (fun _ _ h => h) rfl rfl ?_
        intro KK hKK
        go_big_quiet_op
        go_big_quiet_on
        refine wpS_plain (fun _ => True) (fun _ _ _ _ _ => trivial) (fun _ _ h => h) rfl rfl ?_
        intro KK hKK
        go_big_quiet_op
        go_big_quiet_on
        refine wpS_value (.pointer (some ⟨ub, 0, none⟩)) rfl (fun _ => by go_simp) (fun _ _ h => h) ?_
        (try simp only [Act.put, List.getElem_toArray, List.getElem_cons_zero, List.getElem_cons_succ, List.setIfInBounds_toArray, List.set_cons_zero, List.set_cons_succ])
        refine wpS_plain (fun _ => True) (fun _ _ _ _ _ => trivial) (fun _ _ h => h) rfl rfl ?_
        intro KK hKK
        go_big_quiet_op
        go_big_quiet_on
        refine wpS_plain (OpCells ub g off ui k m.pc pl dd zz) (fun L W hL hcl hd => by have h8 := hcl.no hL (j := 8) (by kernel_rfl); have h9 := hcl.no h8 (j := 9) (by kernel_rfl); have h10 := hcl.no h9 (j := 10) (by kernel_rfl); have h12 := hcl.no h10 (j := 12) (by kernel_rfl); exact (OpW.early hd h12).elim (fun e => by rw [e]; exact HAC2.out) (fun e => by rw [e]; exact HAC1.out)) (fun _ _ h => h) rfl rfl ?_
        intro KK hKK
        go_big_quiet_op
        go_big_quiet_on
        refine wpS_plain (fun _ => True) (fun _ _ _ _ _ => trivial) (fun _ _ h => h) rfl rfl ?_
        intro KK hKK
        go_big_quiet_op
        go_big_quiet_on
        refine wpS_plain (fun _ => True) (fun _ _ _ _ _ => trivial) (fun _ _ h => h) rfl rfl ?_
        intro KK hKK
        go_big_quiet_op
        go_big_quiet_on
        refine wpS_plain (OpCells ub g off ui k m.pc pl dd zz) (fun L W hL hcl hd => by have h12 := hcl.no hL (j := 12) (by kernel_rfl); exact (OpW.early hd h12).elim (fun e => by rw [e]; exact HAC2.out) (fun e => by rw [e]; exact HAC1.out)) (fun _ _ h => h) rfl rfl ?_
        intro KK hKK
        go_big_quiet_op
        go_big_quiet_on
        refine ⟨.pointer (some ⟨w1.heap.size, 0, none⟩), .inl ⟨rfl, fun L W hL hcl hd => ?_⟩, ?_⟩
        · have h12 := hcl.no hL (j := 12) (by kernel_rfl)
          obtain rfl : W = w1 := by unfold OpW at hd; rw [h12, hL] at hd; exact hd
          go_simp
          refine ⟨rfl, ?_⟩
          unfold OpW
          rw [bump_ne _ (by decide), bump_at, h12]
          rfl
        (try simp only [Act.put, List.getElem_toArray, List.getElem_cons_zero, List.getElem_cons_succ, List.setIfInBounds_toArray, List.set_cons_zero, List.set_cons_succ])
        refine wpS_store rfl ?_ ?_
        · intro L W hL hcl hd
          have h11 := hcl.dep (i := 11) (by kernel_rfl)
          obtain rfl : W = w1.alloc (.cells #[.int .i64 0, .int .i64 0, .int .i64 0] 40) := by unfold OpW at hd; rw [hL, h11] at hd; exact hd
          refine ⟨w1.alloc (.cells #[.int .i64 1, .int .i64 dd, .int .i64 zz] 40), by go_simp, ?_⟩
          unfold OpW
          rw [bump_at]
          rfl
        (try simp only [Act.put, List.getElem_toArray, List.getElem_cons_zero, List.getElem_cons_succ, List.setIfInBounds_toArray, List.set_cons_zero, List.set_cons_succ])
        intro L W3 hall hd
        have HWE := hid (show W3 = w1.alloc (.cells #[.int .i64 1, .int .i64 dd, .int .i64 zz] 40) from by unfold OpW at hd; rw [hall 12 (by decide)] at hd; exact hd)
        clear hd hall y0 y1 y2 y3 y4 yf hne1 hne2
        have hs3 := HS3.out
        have hbo := HBO.out
        rw [← HWE.out] at hs3 hbo
        have HS4 := hid hs3
        have HBO4 := hid hbo
        clear hs3 hbo HS3 HBO HWE HAC1 HAC2 hui hpl1 hw1 q0
        go_upto_region 3 with fail
        refine wp_renamed (fun V => AkB w ρ ρ0 r ub p l m B mb vw s u g0 V ∧ V.heap[w1.heap.size]? = some (.cells #[.int .i64 1, .int .i64 dd, .int .i64 zz] 40 (0, 0))) ⟨HS4.out, HBO4.out⟩ ?_
        clear HS4 HBO4 HS HUB hlt
        generalize w1.heap.size = ob
        rintro W2 ⟨hs, hbo⟩
        have HS := hid hs
        have HUB := hid hs.dn.rn.lt
        have hlt := hs.dn.rn.lt
        have c0 := hs.dn.rn.facts.1
        have f0 := hs.dn.rn.facts.2.2.2.2.2.2 0
        have x0 := cell_of_blk hs.map 0
        have x1 := cell_of_blk hs.map 1
        have x2 := cell_of_blk hs.map 2
        have x3 := cell_of_blk hs.map 3
        have x4 := cell_of_blk hs.map 4
        have xf0 := frozen_of_blk hs.map 0
        have xf1 := frozen_of_blk hs.map 1
        have xf2 := frozen_of_blk hs.map 2
        have xf3 := frozen_of_blk hs.map 3
        have xf4 := frozen_of_blk hs.map 4
        have xl := lt_of_block hs.map
        have z0 := cell_of_blk hbo 0
        have z1 := cell_of_blk hbo 1
        have z2 := cell_of_blk hbo 2
        have zf0 := frozen_of_blk hbo 0
        have zf1 := frozen_of_blk hbo 1
        have zf2 := frozen_of_blk hbo 2
        have zl := lt_of_block hbo
        simp only [List.getElem?_toArray, List.getElem?_cons_zero, List.getElem?_cons_succ] at x0 x1 x2 x3 x4 z0 z1 z2
        clear hs hbo
        refine wp_region_later_tail 11 (by kernel_rfl) (by kernel_rfl) ?_
        simp only [List.take_succ_cons, List.take_zero, List.drop_succ_cons, List.drop_zero]
        repeat (go_big_quiet_step (first | (go_at_call 20; with_reducible exact later_call (HDA.out _)) | (go_at_call 101; with_reducible exact later_call (HVV.out _ (HS.out.later (Later.below _))))))
        refine wpQuiet_nil ?_
        rintro _ ⟨y, rfl⟩
        have HS2 := hid (HS.out.later y.below)
        clear HS HUB hlt x0 x1 x2 x3 x4 xf0 xf1 xf2 xf3 xf4 xl z0 z1 z2 zf0 zf1 zf2 zl c0 f0
        generalize y.v = W at *
        have HS := hid HS2.out
        clear HS2
        have HUB := hid HS.out.dn.rn.lt
        have HCALL := hid (tpWrite_any (dataP o.2.1) vv HS.out.dn.px.px)
        rw [← hpq] at HCALL
        clear hpq
        go_upto_region 10 with (go_at_call 100; go_must ((with_reducible refine HCALL.out.mono ?_); rintro e w5 ⟨rfl, hr⟩; have HR := hid hr; clear hr))
        obtain ⟨ρ1, l1, ha⟩ := AkS.of HS.out.dn ⟨rfl, HR.out⟩
        have hqq : pq.1 = q.1 := HQ.out.1
        rw [hqq]
        have HA := hid ha
        clear ha hqq HCALL HR
        have c3 := HA.out.rn.facts.2.2.2.1
        have f3 := HA.out.rn.facts.2.2.2.2.2.2 3
        go_upto_region 11 with fail
        refine wp_renamed (AkS W ρ0 r ub { u with x := q.2, busy := decide (q.1 = 0) } m pq.2 B mb vw s ρ1 l1) (HA.out.put (u' := { u with x := q.2, busy := decide (q.1 = 0) }) HUB.out 3 (.bool (decide (q.1 = 0))) rfl rfl rfl HI.out) ?_
        clear HA c3 f3
        intro V ha
        have HA := hid ha
        have HQ2 := hid HQ.out.2
        clear ha
        by_cases k1 : q.1 = 1
        · have HT := hid (show tookC { u with x := q.2, busy := decide (q.1 = 0) } q.1 = doneR { u with x := q.2, busy := decide (q.1 = 0) } from by rw [k1]; exact tookC_1 _)
          have HDN := hid (done_any (w := V) (N := N + 1) mT (HA.out.rx HQ2.out HBQ.out) HRL.out HIL.out)
          generalize hq1 : q.1 = qc at *
          subst k1
          have bx := HS.out.mapAt HA.out.wrote
          have x0 := cell_of_blk bx 0
          have x1 := cell_of_blk bx 1
          have x2 := cell_of_blk bx 2
          have x3 := cell_of_blk bx 3
          have x4 := cell_of_blk bx 4
          have xf0 := frozen_of_blk bx 0
          have xf1 := frozen_of_blk bx 1
          have xf2 := frozen_of_blk bx 2
          have xf3 := frozen_of_blk bx 3
          have xf4 := frozen_of_blk bx 4
          simp only [List.getElem?_toArray, List.getElem?_cons_zero, List.getElem?_cons_succ] at x0 x1 x2 x3 x4
          clear bx
          go_wp2_with (go_at_call 63; go_must ((with_reducible refine HDN.out.mono ?_); rintro e w9 ⟨rfl, hr⟩; have HR := hid hr; clear hr))
          go_end0
          rw [HE.out, HT.out]
          exact (RxRet.from (w1 := V) (ρ1 := ρ1) ⟨rfl, HR.out⟩ HA.out.gr HA.out.wrote).from HS.out.gr HS.out.wrote
        · by_cases k2 : q.1 = 2
          · have HT := hid (show tookC { u with x := q.2, busy := decide (q.1 = 0) } q.1 = { u with x := q.2, busy := decide (q.1 = 0), fin := 2 } from by rw [k2]; exact tookC_2 _)
            generalize hq1 : q.1 = qc at *
            subst k2
            have c4 := HA.out.rn.facts.2.2.2.2.1
            have f4 := HA.out.rn.facts.2.2.2.2.2.2 4
            go_wp2_with fail
            go_end0
            rw [HE.out, HT.out]
            exact (HA.out.put (u' := { u with x := q.2, busy := decide ((2 : Int) = 0), fin := 2 }) HUB.out 4 (.int .i64 2) rfl rfl rfl HI.out).fin HQ2.out HBQ.out |>.from HS.out.gr HS.out.wrote
          · have HT := hid (show tookC { u with x := q.2, busy := decide (q.1 = 0) } q.1 = { u with x := q.2, busy := decide (q.1 = 0) } from tookC_n _ k1 k2)
            have k1b : (q.1 == 1) = false := by simpa using k1
            have k2b : (q.1 == 2) = false := by simpa using k2
            generalize q.1 = qc at *
            go_wp2_with fail
            go_end0
            rw [HE.out, HT.out]
            exact (HA.out.fin HQ2.out HBQ.out).from HS.out.gr HS.out.wrote

end Go.Proofs.Ytjfinnjmcnjciaa

namespace Go.Proofs.Ytjfinnjmcnjciaa
open Go.RowKit
attribute [local go_sem] Later.cell Later.frozen

/-- What a pick's step wants. -/
structure StOk (s : MS) (u : RU) : Prop where
  zs : u.x.m.size ≤ (s.zs.length : Int)
  all : ∀ p ∈ u.x.parts, isPart p
  left : ∀ p ps, u.x.parts = p :: ps → leftP u.x p = true
  few : u.x.parts.length ≤ 700
  rl : u.read.length < 100
  il : u.i < 100
theorem stepR_took (s : MS) (u : RU) : stepR s u = tookC { u with x := (txStep s u.x).2.1 } (txStep s u.x).1 := by
  unfold stepR tookC
  split
  · rfl
  · split <;> rfl
theorem asksR_stop {n : Nat} {u : RU} (h : u.busy = true ∨ u.fin ≠ 0) : asksR n u = u := by
  cases n with
  | zero => rfl
  | succ n =>
    unfold asksR
    rw [if_neg]
    intro hh
    rcases h with h | h
    · rw [h] at hh; cases hh.1
    · exact h hh.2
theorem asksR_more {n : Nat} {u : RU} (h1 : u.busy = false) (h2 : u.fin = 0) : asksR (n + 1) u = asksR n (askR u) := by
  rw [asksR, if_pos ⟨h1, h2⟩]
def C012 (c : Int) : Prop := c = 0 ∨ c = 1 ∨ c = 2
theorem endP_012 (x : PT) : C012 (endP x) := by unfold endP C012; split <;> simp
theorem goQ_012 : ∀ (ps : List Int) (x : PT), C012 (goQ ps x).1
  | [], x => endP_012 x
  | p :: ps, x => by
    unfold goQ
    split
    · exact .inl rfl
    · exact goQ_012 ps _
theorem goP_012 : ∀ (ps : List Int) (x : PT), C012 (goP ps x).1
  | [], x => endP_012 x
  | p :: ps, x => by
    unfold goP
    split
    · exact .inl rfl
    · split
      · exact goQ_012 _ _
      · exact goP_012 ps _
theorem askC_012 (u : RU) : (askC u).1 = 0 ∨ (askC u).1 = 1 ∨ (askC u).1 = 2 := by
  show C012 (askC u).1
  unfold askC
  split
  · show C012 (pBegin u.x).1
    unfold pBegin
    split
    · exact .inr (.inr rfl)
    · exact goP_012 _ _
  · split
    · show C012 (pCommit u.x).1
      unfold pCommit
      split
      · split <;> exact goP_012 _ _
      · exact .inr (.inr rfl)
    · split
      · show C012 (pRead u.x _).1
        unfold pRead
        split
        · split
          · exact .inr (.inl rfl)
          · split
            · exact goQ_012 _ _
            · exact goP_012 _ _
        · exact .inr (.inr rfl)
      · show C012 (pWrite u.x _ _).1
        unfold pWrite
        split
        · split
          · exact goQ_012 _ _
          · split
            · exact .inr (.inl rfl)
            · exact goQ_012 _ _
        · exact .inr (.inr rfl)
/-- How far it is from being busy. -/
def muN (u : RU) : Nat := if u.busy = true ∨ u.fin ≠ 0 then 0 else 1 + (u.plan.length + 1 - u.i)
theorem muN_ask (u : RU) (h1 : u.busy = false) (h2 : u.fin = 0) : muN (askR u) < muN u := by
  have e : muN u = 1 + (u.plan.length + 1 - u.i) := if_neg (fun h => h.elim (fun h => by rw [h1] at h; cases h) (fun h => h h2))
  rw [e]
  rcases askC_012 u with hc | hc | hc
  · have : askR u = { u with x := (askC u).2, busy := decide ((askC u).1 = 0) } := by unfold askR; exact tookC_n _ (by rw [hc]; decide) (by rw [hc]; decide)
    rw [this, show muN { u with x := (askC u).2, busy := decide ((askC u).1 = 0) } = 0 from if_pos (.inl (by rw [hc]; rfl))]
    omega
  · have : askR u = doneR { u with x := (askC u).2, busy := decide ((askC u).1 = 0) } := by unfold askR; rw [hc]; exact tookC_1 _
    rw [this]
    by_cases hp : u.plan.length < u.i
    · rw [doneR_fin (by exact hp), show muN { u with x := (askC u).2, busy := false, fin := 1 } = 0 from if_pos (.inr (by show (1 : Int) ≠ 0; decide))]
      omega
    · rw [doneR_on (by exact hp)]
      unfold muN
      rw [if_neg (by intro h; rcases h with h | h; · cases h
                     · exact h h2)]
      show 1 + (u.plan.length + 1 - (u.i + 1)) < _
      omega
  · have : askR u = { u with x := (askC u).2, busy := decide ((askC u).1 = 0), fin := 2 } := by unfold askR; rw [hc]; exact tookC_2 _
    rw [this, show muN { u with x := (askC u).2, busy := decide ((askC u).1 = 0), fin := 2 } = 0 from if_pos (.inr (by show (2 : Int) ≠ 0; decide))]
    omega
/-- The same, read in the world. -/
def muW (w : World) (ub : Nat) : Nat := match w.cell? ⟨ub, 1, none⟩, w.cell? ⟨ub, 2, none⟩, w.cell? ⟨ub, 3, none⟩, w.cell? ⟨ub, 4, none⟩ with
  | some (.slice _ n _), some (.int _ i), some (.bool b), some (.int _ f) => if b = true ∨ f ≠ 0 then 0 else 1 + (n + 1 - i.toNat)
  | _, _, _, _ => 0
theorem muW_eq {w : World} {ρ : Nat → Nat} {r ub : Nat} {u : RU} {m : RL} (h : RnX w ρ r ub u m) : muW w ub = muN u := by
  unfold muW muN
  rw [h.facts.2.1, h.facts.2.2.1, h.facts.2.2.2.1, h.facts.2.2.2.2.1]
  simp

end Go.Proofs.Ytjfinnjmcnjciaa

namespace Go.Proofs.Ytjfinnjmcnjciaa
open Go.RowKit
attribute [local go_sem] Later.cell Later.frozen

variable {w w' : World} {ρ ρ' : Nat → Nat} {r ub : Nat} {u u' : RU} {m m' : RL} {p : PT} {l : PL} {B mb : Nat} {vw : Value} {s s' : MS} {N : Nat}
/-- While it asks. -/
structure NxI (w : World) (ρ : Nat → Nat) (r ub : Nat) (u : RU) (B mb : Nat) (vw : Value) (s : MS) (N : Nat) (g0 : Nat) (J : RU → Prop) (W : World) (ρ1 : Nat → Nat) (n : Nat) (v : RU) : Prop where
  rx : RX W ρ1 r ub v B mb vw s (N + (9 - n))
  map : W.heap[g0]? = some (.cells #[.int .i64 3, .int .i64 1, .int .i64 3, .int .i64 0, .int .i64 4] 31 (0, 0))
  g : ρ1 g0 = r + 11
  gr : Gr ρ ρ1 w
  wrote : Wrote (RS ρ r mb vw) w W
  n9 : n ≤ 9
  j : J v
  asks : asksR n v = asksR 9 u
theorem NxI.start {J : RU → Prop} (h : RX w ρ r ub u B mb vw s N) (hj : J u) : NxI w ρ r ub u B mb vw s N w.heap.size J (w.alloc (.cells #[.int .i64 3, .int .i64 1, .int .i64 3, .int .i64 0, .int .i64 4] 31)) (newR ρ w.heap.size (r + 11)) 9 u := by
  obtain ⟨p, l, m, hp, hx, hn, hd, ha⟩ := h
  have hb := AkB.start hx hn
  exact ⟨⟨p, l, m, hp, hb.dn.px, hb.dn.rn, by omega, by omega⟩, hb.map, hb.g, hb.gr, hb.wrote, Nat.le_refl _, hj, rfl⟩
theorem RX.mapAt {ρ1 : Nat → Nat} {g0 : Nat} {W V : World} (h : RX W ρ1 r ub u B mb vw s N) (hm : W.heap[g0]? = some (.cells #[.int .i64 3, .int .i64 1, .int .i64 3, .int .i64 0, .int .i64 4] 31 (0, 0))) (hg : ρ1 g0 = r + 11) (hw : Wrote (RS ρ1 r mb vw) W V) : V.heap[g0]? = some (.cells #[.int .i64 3, .int .i64 1, .int .i64 3, .int .i64 0, .int .i64 4] 31 (0, 0)) := by
  obtain ⟨p, l, m, _, hx, _, _, _⟩ := h
  refine (hw.block _ (lt_of_block hm) fun hs => ?_).trans hm
  rcases hs with hs | hs
  · have := hs.2; omega
  · have := hx.m0 _ hs; omega
theorem NxI.asked {J : RU → Prop} {ρ1 : Nat → Nat} {g0 n : Nat} {W W2 : World} {v : RU} (h : NxI w ρ r ub u B mb vw s N g0 J W ρ1 (n + 1) v) (h1 : v.busy = false) (h2 : v.fin = 0) (hj : J (askR v)) {e : Ending} (hr : RxRet W ρ1 r ub (askR v) B mb vw s (N + (9 - (n + 1)) + 1) e W2) : ∃ ρ2, NxI w ρ r ub u B mb vw s N g0 J W2 ρ2 n (askR v) := by
  obtain ⟨_, ρ2, g, x, k⟩ := hr
  have hn := h.n9
  refine ⟨ρ2, ?_, h.rx.mapAt h.map h.g k, (g _ (lt_of_block h.map)).trans h.g, h.gr.trans g h.wrote.size, h.wrote.then k fun i hi ho => ?_, by omega, hj, ?_⟩
  · rw [show N + (9 - n) = N + (9 - (n + 1)) + 1 by omega]; exact x
  · unfold RS OwnR at ho ⊢; rw [h.gr i hi] at ho; exact ho
  · rw [← asksR_more h1 h2]; exact h.asks
theorem RX.facts (h : RX w ρ r ub u B mb vw s N) : (∃ xb, w.cell? ⟨ub, 0, none⟩ = some (.pointer (some ⟨xb, 0, none⟩))) ∧ w.cell? ⟨ub, 3, none⟩ = some (.bool u.busy) ∧ w.cell? ⟨ub, 4, none⟩ = some (.int .i64 u.fin) ∧ (∀ i, w.frozen? ⟨ub, i, none⟩ = false) ∧ muW w ub = muN u ∧ ub < w.heap.size := by
  obtain ⟨p, l, m, _, _, hn, _, _⟩ := h
  exact ⟨⟨_, hn.facts.1⟩, hn.facts.2.2.2.1, hn.facts.2.2.2.2.1, hn.facts.2.2.2.2.2.2, muW_eq hn, hn.lt⟩
theorem RX.below (h : RX w ρ r ub u B mb vw s N) (hb : Below w.heap.size w w') : RX w' ρ r ub u B mb vw s N := by
  obtain ⟨p, l, m, hp, hx, hn, hd, ha⟩ := h
  exact ⟨p, l, m, hp, hx.below hb, hn.below hb, hd, ha⟩
theorem RX.mono (h : RX w ρ r ub u B mb vw s N) {M : Nat} (hm : N ≤ M) : RX w ρ r ub u B mb vw s M := by
  obtain ⟨p, l, m, hp, hx, hn, hd, ha⟩ := h
  exact ⟨p, l, m, hp, hx, hn, Nat.le_trans hd hm, Nat.le_trans ha hm⟩

set_option maxHeartbeats 4000000 in
theorem rnext_any {J : RU → Prop} (h : RX w ρ r ub u B mb vw s N) (hJ : J u) (hask : ∀ v, J v → v.busy = false → v.fin = 0 → AskOk v ∧ J (askR v)) (hend : (asksR 9 u).busy = true ∨ (asksR 9 u).fin ≠ 0)
    (hst : (asksR 9 u).fin = 0 → StOk s (asksR 9 u)) (hN : N ≤ 80000) :
    Calls Try.prog 18 #[.pointer (some ⟨ub, 0, none⟩), .pointer (some ⟨mb, 0, none⟩), mT.v] w (RxRet w ρ r ub (nextR s u).1 B mb vw (nextR s u).2 (N + 10)) := by
  show Calls _ _ #[_, _, .agg #[.int .i64 3, .int .i64 1, .int .i64 3, .int .i64 0, .int .i64 4]] _ _
  have HI := hid (NxI.start (J := J) h hJ)
  have HA := hid hask
  have HEN := hid hend
  have HST := hid hst
  obtain ⟨_, _, d4, df, _, dl⟩ := (h.below (bnew (bid w) (.cells #[.int .i64 3, .int .i64 1, .int .i64 3, .int .i64 0, .int .i64 4] 31))).facts
  have df4 := df 4
  have H := hid h
  clear h hJ hask hend hst df
  by_cases hf : u.fin ≠ 0
  · have HE := hid (show nextR s u = (u, s) from if_pos hf)
    have hfb : (u.fin != 0) = true := by simpa using hf
    clear hf
    generalize u.fin = fn at *
    go_enter Try.func18, Try.ntmps18
    go_wp2_with fail
    go_end0
    rw [HE.out]
    exact ⟨rfl, ρ, Gr.refl _ _, (H.out.below (bnew (bid w) _)).mono (Nat.le_add_right _ _), Wrote.of_below (bnew (bid w) _) _⟩
  · have hf0 : u.fin = 0 := Decidable.not_not.1 hf
    have HE := hid (show nextR s u = if (asksR 9 u).fin ≠ 0 then (asksR 9 u, s) else (stepR s (asksR 9 u), (txStep s (asksR 9 u).x).2.2) from if_neg hf)
    rw [hf0] at d4
    clear hf hf0
    go_enter Try.func18, Try.ntmps18
    go_wp2_with fail
    generalize hg0 : w.heap.size = g0 at HI
    go_loopw [23] (fun _ W => ∃ ρ1 n v, NxI w ρ r ub u B mb vw s N g0 J W ρ1 n v) (fun _ W => muW W ub)
    case atStart => exact ⟨_, _, _, HI.out⟩
    case round =>
      obtain ⟨ρ1, n, v, hi⟩ := hrel
      clear HI d4 df4 dl
      have HI := hid hi
      obtain ⟨⟨xb, e0⟩, e3, e4, ef, emu, elt⟩ := hi.rx.facts
      have ef0 := ef 0
      have ef3 := ef 3
      have ef4 := ef 4
      have HMU := hid emu
      have x0 := cell_of_blk hi.map 0
      have x1 := cell_of_blk hi.map 1
      have x2 := cell_of_blk hi.map 2
      have x3 := cell_of_blk hi.map 3
      have x4 := cell_of_blk hi.map 4
      have xf0 := frozen_of_blk hi.map 0
      have xf1 := frozen_of_blk hi.map 1
      have xf2 := frozen_of_blk hi.map 2
      have xf3 := frozen_of_blk hi.map 3
      have xf4 := frozen_of_blk hi.map 4
      have xl := lt_of_block hi.map
      simp only [List.getElem?_toArray, List.getElem?_cons_zero, List.getElem?_cons_succ] at x0 x1 x2 x3 x4
      clear hi ef emu
      by_cases hcont : v.busy = false ∧ v.fin = 0
      · obtain ⟨hb, hf⟩ := hcont
        rw [hb] at e3
        rw [hf] at e4
        obtain ⟨n', rfl⟩ : ∃ n', n = n' + 1 := by
          cases n with
          | zero =>
            exfalso
            have := HI.out.asks
            have h2 : v = asksR 9 u := this
            rcases HEN.out with h | h
            · rw [← h2, hb] at h; cases h
            · rw [← h2] at h; exact h hf
          | succ n => exact ⟨n, rfl⟩
        obtain ⟨hok, hj⟩ := HA.out v HI.out.j hb hf
        have HJ := hid hj
        have HML := hid (muN_ask v hb hf)
        have HB := hid hb
        have HF := hid hf
        have HASK := hid (ask_any HI.out.rx hok (by have := HI.out.n9; omega))
        clear hb hf hok hj
        go_wp2_with (go_at_call 62; go_must ((with_reducible refine HASK.out.mono ?_); rintro e w5 ⟨rfl, hr⟩; have HR := hid hr; clear hr))
        obtain ⟨ρ2, hi2⟩ := HI.out.asked HB.out HF.out HJ.out ⟨rfl, HR.out⟩
        go_roundw
        case rel => exact ⟨ρ2, n', _, hi2⟩
        case measure => rw [hi2.rx.facts.2.2.2.2.1, HMU.out]; exact HML.out
      · have hve : v = asksR 9 u := by
          rw [← HI.out.asks]
          refine (asksR_stop ?_).symm
          cases hb : v.busy with
          | true => exact .inl rfl
          | false => exact .inr (fun hf => hcont ⟨hb, hf⟩)
        by_cases hf : v.fin = 0
        · have hb : v.busy = true := by
            cases hb : v.busy with
            | true => rfl
            | false => exact absurd ⟨hb, hf⟩ hcont
          have HE2 := hid (HE.out.trans (if_neg (by rw [← hve]; exact fun h => h hf)))
          have hso := HST.out (by rw [← hve]; exact hf)
          rw [← hve] at HE2 hso
          rw [hb] at e3
          rw [hf] at e4
          have HSO := hid hso
          obtain ⟨p, l, m, hp, hx, hn, hd, ha⟩ := HI.out.rx
          have hN9 : N + (9 - n) ≤ 90000 := by omega
          have hac : AccOk s p := by cases hp; exact ⟨HSO.out.zs, by omega, HSO.out.all, HSO.out.left, HSO.out.few⟩
          have HSTP := hid (tpStep_any hx hac)
          have HL := hid (hp.step s)
          have HBQ := hid ((show Bd p (N + (9 - n)) from ⟨hd, ha⟩).step s hac.all |>.mono (show N + (9 - n) + 1 ≤ N + 10 by omega))
          have HN := hid hn
          have HVE := hid hve
          have c0 := hn.facts.1
          clear hb hf hso hp hx hn hd ha hac hcont hN9 e0 hve
          obtain ⟨pq, hpq⟩ : ∃ pq, pq = pStep s p := ⟨_, rfl⟩
          obtain ⟨q, hq⟩ : ∃ q, q = txStep s v.x := ⟨_, rfl⟩
          have HE3 := hid (show nextR s u = (tookC { v with x := q.2.1 } q.1, q.2.2) from by rw [HE2.out, stepR_took, ← hq])
          have HQ := hid (show pq.1 = q.1 ∧ RP pq.2.1 q.2.1 ∧ pq.2.2 = q.2.2 from by rw [hpq, hq]; exact HL.out)
          rw [← hpq] at HSTP HBQ
          clear hpq hq HL HE2 HE
          go_upto_region 6 with (go_at_call 28; go_must ((with_reducible refine HSTP.out.mono ?_); rintro e w5 ⟨rfl, ρ2, l2, hg2, hx2, hw2⟩; have HG2 := hid hg2; have HX2 := hid hx2; have HW2 := hid hw2; clear hg2 hx2 hw2))
          have hqq : pq.1 = q.1 := HQ.out.1
          have hrs : Wrote (RS ρ1 r mb vw) wr w5 := HW2.out.mono fun k _ ho => by
            rcases ho with ho | ho
            · exact .inl ⟨ho.1, by have := ho.2; omega⟩
            · exact .inr ho
          have hrn : RnX w5 ρ2 r ub { v with x := q.2.1 } m := by
            have h1 := (HN.out.gr HG2.out).kept (S := fun i => OwnM ρ1 r mb vw i ∧ i < wr.heap.size) (HW2.out.mono fun i hi ho => ⟨ho, hi⟩) fun i h1 h2 ho => by
              rw [HG2.out i ho.2] at h1
              rcases ho.1 with h3 | h3
              · have := h3.2; omega
              · obtain ⟨_, _, _, _, hx, _, _, _⟩ := HI.out.rx
                have := hx.m0 i h3
                omega
            exact ⟨h1.blk, h1.plan, h1.rd, h1.u1, h1.u2, h1.u3, h1.il, h1.pl⟩
          have hrx : RX w5 ρ2 r ub { v with x := q.2.1 } B mb vw q.2.2 (N + 10) := ⟨pq.2.1, l2, m, HQ.out.2.1, by rw [← HQ.out.2.2]; exact HX2.out, hrn, HBQ.out.1, HBQ.out.2⟩
          have hgr : Gr ρ ρ2 w := HI.out.gr.trans HG2.out HI.out.wrote.size
          have hwr : Wrote (RS ρ r mb vw) w w5 := HI.out.wrote.then hrs fun i hi ho => by unfold RS OwnR at ho ⊢; rw [HI.out.gr i hi] at ho; exact ho
          have hmap := HI.out.rx.mapAt HI.out.map HI.out.g hrs
          have HRX := hid hrx
          have HGR := hid hgr
          have HWR := hid hwr
          have HRN := hid hrn
          rw [hqq]
          clear e3 e4 ef0 ef3 ef4 x0 x1 x2 x3 x4 xf0 xf1 xf2 xf3 xf4 xl hrs hrx hgr hwr hrn HW2 HG2 HN c0 hqq
          by_cases k1 : q.1 = 1
          · have HT := hid (show tookC { v with x := q.2.1 } q.1 = doneR { v with x := q.2.1 } from by rw [k1]; exact tookC_1 _)
            have HDN := hid (done_any mT HRX.out HSO.out.rl HSO.out.il)
            rw [k1]
            have x0 := cell_of_blk hmap 0
            have x1 := cell_of_blk hmap 1
            have x2 := cell_of_blk hmap 2
            have x3 := cell_of_blk hmap 3
            have x4 := cell_of_blk hmap 4
            have xf0 := frozen_of_blk hmap 0
            have xf1 := frozen_of_blk hmap 1
            have xf2 := frozen_of_blk hmap 2
            have xf3 := frozen_of_blk hmap 3
            have xf4 := frozen_of_blk hmap 4
            simp only [List.getElem?_toArray, List.getElem?_cons_zero, List.getElem?_cons_succ] at x0 x1 x2 x3 x4
            clear hmap k1
            go_wp2_with (go_at_call 63; go_must ((with_reducible refine HDN.out.mono ?_); rintro e w9 ⟨rfl, hr⟩; have HR := hid hr; clear hr))
            go_end0
            rw [HE3.out, HT.out]
            exact RxRet.from (w1 := w5) (ρ1 := ρ2) ⟨rfl, HR.out⟩ HGR.out HWR.out
          · by_cases k2 : q.1 = 2
            · have HT := hid (show tookC { v with x := q.2.1 } q.1 = { v with x := q.2.1, fin := 2 } from by rw [k2]; exact tookC_2 _)
              rw [k2]
              have c4 := HRN.out.facts.2.2.2.2.1
              have f4 := HRN.out.facts.2.2.2.2.2.2 4
              clear hmap k1 k2
              go_wp2_with fail
              go_end0
              rw [HE3.out, HT.out]
              have hd : DnS w5 ρ2 r ub pq.2.1 l2 m B mb vw q.2.2 { v with x := q.2.1 } w5 := ⟨by rw [← HQ.out.2.2]; exact HX2.out, HRN.out, Wrote.refl _ _⟩
              exact ((hd.put (u' := { v with x := q.2.1, fin := 2 }) 4 (.int .i64 2) rfl rfl rfl HRN.out.il).fin HQ.out.2.1 HBQ.out).from HGR.out HWR.out
            · have HT := hid (show tookC { v with x := q.2.1 } q.1 = { v with x := q.2.1 } from tookC_n _ k1 k2)
              have k1b : (q.1 == 1) = false := by simpa using k1
              have k2b : (q.1 == 2) = false := by simpa using k2
              clear hmap k1 k2
              generalize q.1 = qc at *
              go_wp2_with fail
              go_end0
              rw [HE3.out, HT.out]
              exact ⟨rfl, ρ2, HGR.out, HRX.out, HWR.out⟩
        · have HE2 := hid (HE.out.trans (if_pos (by rw [← hve]; exact hf)))
          rw [← hve] at HE2
          have hfb : (v.fin != 0) = true := by simpa using hf
          have hfc : (v.fin == 0) = false := by simpa using hf
          have HVE := hid hve
          clear hcont hve
          generalize hfn : v.fin = fn at *
          cases hb : v.busy with
          | true =>
            rw [hb] at e3
            clear hb
            go_wp2_with fail
            go_end0
            rw [HE2.out]
            exact ⟨rfl, ρ1, HI.out.gr, HI.out.rx.mono (by omega), HI.out.wrote⟩
          | false =>
            rw [hb] at e3
            clear hb
            go_wp2_with fail
            go_end0
            rw [HE2.out]
            exact ⟨rfl, ρ1, HI.out.gr, HI.out.rx.mono (by omega), HI.out.wrote⟩

end Go.Proofs.Ytjfinnjmcnjciaa
