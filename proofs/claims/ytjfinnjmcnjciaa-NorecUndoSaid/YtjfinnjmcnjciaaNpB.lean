/-
  The program's attempt with values in its blocks: its own, its two sets, its lists; a number a block says whose it is. Whether a part has an access left.
-/
import Derived.Test.YtjfinnjmcnjciaaNpV
import Derived.Test.YtjfinnjmcnjciaaRdW
import Derived.Test.YtjfinnjmcnjciaaWrQ
import Derived.Test.YtjfinnjmcnjciaaClkE
import Derived.Test.YtjfinnjmcnjciaaPLoc
import Derived.Test.YtjfinnjmcnjciaaNode
import Derived.Deep.DeepCutAuto
import Derived.BigQuiet
import Derived.Test.YtjfinnjmcnjciaaRdR
namespace Go.Proofs.Ytjfinnjmcnjciaa
open Go.RowKit
attribute [local go_sem] Later.cell Later.frozen

/-- Where its lists lie. -/
structure PL where
  rb : Nat
  wb : Nat
  vt : Value
  pa : Option Addr
  pc : Nat
def ptC (x : PT) (l : PL) : Array Value := #[.int .i64 x.m.s, .int .i64 x.m.l, .int .i64 x.m.t, .int .i64 x.m.c, .int .i64 x.m.d, .int .i64 x.th, .int .i64 x.top, .pointer (some ⟨l.rb, 0, none⟩), .pointer (some ⟨l.wb, 0, none⟩), l.vt, .bool x.alive, .bool x.sure, .int .i64 x.cause, .int .i64 x.stamp, .int .i64 x.made, .int .i64 x.val, .slice l.pa x.parts.length l.pc, .int .i64 x.dn, .int .i64 x.at_, .int .i64 x.got, .int .i64 x.now, .bool x.claimed, .bool x.phased]
/-- What does not lie in its own block. -/
def PT.core (x : PT) : Nat × Nat × List Wd × List Wd × Nat × List Wd := (x.mr, x.mw, x.rs, x.ws, x.asked, x.wt)
def PL.core (l : PL) : Nat × Nat × Value := (l.rb, l.wb, l.vt)
/-- What lies in its other blocks. -/
structure PIn (w : World) (ρ : Nat → Nat) (r b : Nat) (x : PT) (l : PL) : Prop where
  rd : SetAt w l.rb x.mr x.rs
  wr : WSet w l.wb x.mw x.ws x.asked
  wt : WL w 0 l.vt x.wt
  b1 : ρ b = r + 1
  b2 : ρ l.rb = r + 2
  b3 : ρ l.wb = r + 3
  b4 : ∀ k, l.vt.ownBlock = some k → ρ k = r + 4
  wtl : x.wt.length ≤ 100
structure PParts (w : World) (ρ : Nat → Nat) (r : Nat) (x : PT) (l : PL) : Prop where
  row : IntRow w l.pa x.parts.length x.parts
  b7 : ∀ a, l.pa = some a → 0 < x.parts.length → ρ a.block = r + 7 ∧ a.block < w.heap.size
  cap : x.parts.length ≤ l.pc
  few : l.pc ≤ maxLen
structure PX (w : World) (ρ : Nat → Nat) (r b : Nat) (x : PT) (l : PL) : Prop where
  blk : w.heap[b]? = some (.cells (ptC x l) 99 (0, 0))
  ins : PIn w ρ r b x l
  parts : PParts w ρ r x l

/-- The numbers of what there was are as they were. -/
def Gr (ρ ρ' : Nat → Nat) (w : World) : Prop := ∀ k, k < w.heap.size → ρ' k = ρ k
def Own (ρ : Nat → Nat) (r : Nat) : Nat → Prop := fun k => r < ρ k ∧ ρ k < r + 8
theorem Gr.refl (ρ : Nat → Nat) (w : World) : Gr ρ ρ w := fun _ _ => rfl
theorem Gr.trans {ρ ρ' ρ'' : Nat → Nat} {w w' : World} (h : Gr ρ ρ' w) (h' : Gr ρ' ρ'' w') (hs : w.heap.size ≤ w'.heap.size) : Gr ρ ρ'' w := fun k hk => (h' k (Nat.lt_of_lt_of_le hk hs)).trans (h k hk)
/-- New blocks are of that number. -/
def newR (ρ : Nat → Nat) (n c : Nat) : Nat → Nat := fun k => if k < n then ρ k else c
theorem newR_gr (ρ : Nat → Nat) (w : World) (c : Nat) : Gr ρ (newR ρ w.heap.size c) w := fun _ hk => if_pos hk
theorem newR_old {ρ : Nat → Nat} {n c k : Nat} (h : k < n) : newR ρ n c k = ρ k := if_pos h
theorem newR_new {ρ : Nat → Nat} {n c k : Nat} (h : n ≤ k) : newR ρ n c k = c := if_neg (by omega)

section
variable {w w' : World} {ρ ρ' : Nat → Nat} {r b : Nat} {x x' : PT} {l l' : PL}
theorem PX.lt (h : PX w ρ r b x l) : b < w.heap.size := lt_of_block h.blk
theorem PX.c (h : PX w ρ r b x l) (i : Nat) : w.cell? ⟨b, i, none⟩ = (ptC x l)[i]? := cell_of_blk h.blk i
theorem PX.f (h : PX w ρ r b x l) (i : Nat) : w.frozen? ⟨b, i, none⟩ = false := frozen_of_blk h.blk i
theorem PIn.kept {S : Nat → Prop} (h : PIn w ρ r b x l) (hw : Wrote S w w') (hs : ∀ k, r + 1 < ρ k → ρ k < r + 7 → ¬ S k) : PIn w' ρ r b x l :=
  ⟨h.rd.keep (hw.block _ h.rd.lt (hs _ (by rw [h.b2]; omega) (by rw [h.b2]; omega))), h.wr.keep (hw.block _ h.wr.lt (hs _ (by rw [h.b3]; omega) (by rw [h.b3]; omega))),
    h.wt.kept hw fun k hk => hs k (by rw [h.b4 k hk]; omega) (by rw [h.b4 k hk]; omega), h.b1, h.b2, h.b3, h.b4, h.wtl⟩
theorem PParts.kept {S : Nat → Prop} (h : PParts w ρ r x l) (hw : Wrote S w w') (hs : ∀ k, ρ k = r + 7 → ¬ S k) : PParts w' ρ r x l :=
  ⟨h.row.kept hw fun a ha hl => hs _ (h.b7 a ha hl).1, fun a ha hl => ⟨(h.b7 a ha hl).1, Nat.lt_of_lt_of_le (h.b7 a ha hl).2 hw.size⟩, h.cap, h.few⟩
theorem PX.kept {S : Nat → Prop} (h : PX w ρ r b x l) (hw : Wrote S w w') (hs : ∀ k, Own ρ r k → ¬ S k) : PX w' ρ r b x l :=
  ⟨(hw.block _ h.lt (hs _ ⟨by rw [h.ins.b1]; omega, by rw [h.ins.b1]; omega⟩)).trans h.blk, h.ins.kept hw fun k h1 h2 => hs k ⟨by omega, by omega⟩, h.parts.kept hw fun k hk => hs k ⟨by omega, by omega⟩⟩
theorem PX.below (h : PX w ρ r b x l) (hb : Below w.heap.size w w') : PX w' ρ r b x l := h.kept (Wrote.of_below hb (fun _ => False)) (fun _ _ h => h)
theorem PIn.gr (h : PIn w ρ r b x l) (hb : b < w.heap.size) (hg : Gr ρ ρ' w) : PIn w ρ' r b x l :=
  ⟨h.rd, h.wr, h.wt, (hg _ hb).trans h.b1, (hg _ h.rd.lt).trans h.b2, (hg _ h.wr.lt).trans h.b3, fun k hk => (hg k (h.wt.old hk).2).trans (h.b4 k hk), h.wtl⟩
theorem PParts.gr (h : PParts w ρ r x l) (hg : Gr ρ ρ' w) : PParts w ρ' r x l := ⟨h.row, fun a ha hl => ⟨(hg _ (h.b7 a ha hl).2).trans (h.b7 a ha hl).1, (h.b7 a ha hl).2⟩, h.cap, h.few⟩
theorem PX.gr (h : PX w ρ r b x l) (hg : Gr ρ ρ' w) : PX w ρ' r b x l := ⟨h.blk, h.ins.gr h.lt hg, h.parts.gr hg⟩
theorem PIn.same (h : PIn w ρ r b x l) (hx : x'.core = x.core) (hl : l'.core = l.core) : PIn w ρ r b x' l' := by
  simp only [PT.core, PL.core, Prod.mk.injEq] at hx hl
  obtain ⟨e1, e2, e3, e4, e5, e6⟩ := hx
  obtain ⟨k1, k2, k3⟩ := hl
  exact ⟨by rw [k1, e1, e3]; exact h.rd, by rw [k2, e2, e4, e5]; exact h.wr, by rw [k3, e6]; exact h.wt, h.b1, by rw [k1]; exact h.b2, by rw [k2]; exact h.b3, by rw [k3]; exact h.b4, by rw [e6]; exact h.wtl⟩
/-- Its own block turned. -/
theorem PX.upd (h : PX w ρ r b x l) (hb : w'.heap[b]? = some (.cells (ptC x' l') 99 (0, 0))) (hw : Wrote (fun k => k = b) w w') (hx : x'.core = x.core) (hl : l'.core = l.core) (hp : x'.parts = x.parts) (hpl : l'.pa = l.pa ∧ l'.pc = l.pc) : PX w' ρ r b x' l' := by
  have hb1 := h.ins.b1
  refine ⟨hb, (h.ins.same hx hl).kept hw fun k h1 h2 e => by subst e; omega, ?_⟩
  have h2 : PParts w ρ r x' l' := ⟨by rw [hp, hpl.1]; exact h.parts.row, by rw [hp, hpl.1]; exact h.parts.b7, by rw [hp, hpl.2]; exact h.parts.cap, by rw [hpl.2]; exact h.parts.few⟩
  exact h2.kept hw fun k hk e => by subst e; omega
theorem PParts.same (h : PParts w ρ r x l) (hp : x'.parts = x.parts) (h1 : l'.pa = l.pa) (h2 : l'.pc = l.pc) : PParts w ρ r x' l' :=
  ⟨by rw [hp, h1]; exact h.row, by rw [hp, h1]; exact h.b7, by rw [hp, h2]; exact h.cap, by rw [h2]; exact h.few⟩
theorem PX.own (h : PX w ρ r b x l) : Own ρ r b := ⟨by rw [h.ins.b1]; omega, by rw [h.ins.b1]; omega⟩
theorem PX.wr1 (h : PX w ρ r b x l) (hw : Wrote (fun k => k = b) w w') : Wrote (Own ρ r) w w' := hw.mono fun k _ e => by subst e; exact h.own
/-- Its set of reads has one more. -/
theorem PX.reads (h : PX w ρ r b x l) {rs' : List Wd} (hs : SetAt w' l.rb x.mr rs') (hw : Wrote (fun k => k = l.rb) w w') : PX w' ρ r b { x with rs := rs' } l := by
  have i := h.ins
  have h2 := i.b2
  have hb := i.b1
  refine ⟨(hw.block _ h.lt (fun e => by subst e; omega)).trans h.blk, ⟨hs, i.wr.keep (hw.block _ i.wr.lt (fun e => by have := i.b3; rw [e] at this; omega)), i.wt.kept hw fun k hk e => (by subst e; have := i.b4 _ hk; omega), i.b1, i.b2, i.b3, i.b4, i.wtl⟩, ?_⟩
  exact (h.parts.kept hw fun k hk e => by subst e; omega).same rfl rfl rfl
theorem PX.writes (h : PX w ρ r b x l) {ws' : List Wd} {n : Nat} (hs : WSet w' l.wb x.mw ws' n) (hw : Wrote (fun k => k = l.wb) w w') : PX w' ρ r b { x with ws := ws', asked := n } l := by
  have i := h.ins
  have h2 := i.b3
  have hb := i.b1
  refine ⟨(hw.block _ h.lt (fun e => by subst e; omega)).trans h.blk, ⟨i.rd.keep (hw.block _ i.rd.lt (fun e => by have := i.b2; rw [e] at this; omega)), hs, i.wt.kept hw fun k hk e => (by subst e; have := i.b4 _ hk; omega), i.b1, i.b2, i.b3, i.b4, i.wtl⟩, ?_⟩
  exact (h.parts.kept hw fun k hk e => by subst e; omega).same rfl rfl rfl
theorem PX.ownR (h : PX w ρ r b x l) (hw : Wrote (fun k => k = l.rb) w w') : Wrote (Own ρ r) w w' := hw.mono fun k _ e => by subst e; exact ⟨by rw [h.ins.b2]; omega, by rw [h.ins.b2]; omega⟩
theorem PX.ownW (h : PX w ρ r b x l) (hw : Wrote (fun k => k = l.wb) w w') : Wrote (Own ρ r) w w' := hw.mono fun k _ e => by subst e; exact ⟨by rw [h.ins.b3]; omega, by rw [h.ins.b3]; omega⟩
end

abbrev LeftC (w : World) (b : Nat) (x : PT) (p : Int) : Prop := Calls Try.prog 113 #[.pointer (some ⟨b, 0, none⟩), .int .i64 p] w fun e w' => e = .returned (.bool (leftP x p)) ∧ Below w.heap.size w w'
theorem lt_dec (a b : Nat) : decide ((a : Int) < (b : Int)) = decide (a < b) := by rw [decide_eq_decide]; omega
theorem eq_dec (a : Nat) : ((a : Int) == 0) = decide (a = 0) := by
  rw [Bool.eq_iff_iff]; simp
theorem n_and1 (x : Int) : bits .and .i64 x 1 = x % 2 := by
  unfold bits
  show IntKind.i64.wrap (((BitVec.ofInt 64 x &&& BitVec.ofInt 64 1).toNat : Nat) : Int) = x % 2
  have e1 : (BitVec.ofInt 64 1).toNat = 1 := by decide
  rw [BitVec.toNat_and, e1, Nat.and_one_is_mod, BitVec.toNat_ofInt, IntKind.wrap_i64]
  omega
variable {w : World} {ρ : Nat → Nat} {r b : Nat} {x : PT} {l : PL}
set_option maxHeartbeats 1000000 in
theorem left_2 (h : PX w ρ r b x l) : LeftC w b x 2 := by
  have c : w.cell? ⟨b, 17, none⟩ = some (.int .i64 x.dn) := h.c 17
  have f := h.f 17
  have HE := hid (eq_dec x.dn)
  have HL := hid (show leftP x 2 = decide (x.dn = 0) from rfl)
  clear h
  unfold LeftC
  rw [HL.out, ← HE.out]
  clear HE HL
  go_enter Try.func113, Try.ntmps113
  go_wp2
  go_ret
  exact ⟨rfl, bid _⟩
set_option maxHeartbeats 1000000 in
theorem left_4 (h : PX w ρ r b x l) : LeftC w b x 4 := by
  have c : w.cell? ⟨b, 17, none⟩ = some (.int .i64 x.dn) := h.c 17
  have f := h.f 17
  have HE := hid (eq_dec x.dn)
  have HL := hid (show leftP x 4 = decide (x.dn = 0) from rfl)
  clear h
  unfold LeftC
  rw [HL.out, ← HE.out]
  clear HE HL
  go_enter Try.func113, Try.ntmps113
  go_wp2
  go_ret
  exact ⟨rfl, bid _⟩
set_option maxHeartbeats 1000000 in
theorem left_5 (h : PX w ρ r b x l) : LeftC w b x 5 := by
  have c : w.cell? ⟨b, 17, none⟩ = some (.int .i64 x.dn) := h.c 17
  have f := h.f 17
  have HE := hid (eq_dec x.dn)
  have HL := hid (show leftP x 5 = decide (x.dn = 0) from rfl)
  clear h
  unfold LeftC
  rw [HL.out, ← HE.out]
  clear HE HL
  go_enter Try.func113, Try.ntmps113
  go_wp2
  go_ret
  exact ⟨rfl, bid _⟩
set_option maxHeartbeats 1000000 in
theorem left_6 (h : PX w ρ r b x l) : LeftC w b x 6 := by
  have c : w.cell? ⟨b, 17, none⟩ = some (.int .i64 x.dn) := h.c 17
  have f := h.f 17
  have HE := hid (eq_dec x.dn)
  have HL := hid (show leftP x 6 = decide (x.dn = 0) from rfl)
  clear h
  unfold LeftC
  rw [HL.out, ← HE.out]
  clear HE HL
  go_enter Try.func113, Try.ntmps113
  go_wp2
  go_ret
  exact ⟨rfl, bid _⟩
set_option maxHeartbeats 1000000 in
theorem left_7 (h : PX w ρ r b x l) : LeftC w b x 7 := by
  have c : w.cell? ⟨b, 17, none⟩ = some (.int .i64 x.dn) := h.c 17
  have f := h.f 17
  have HE := hid (eq_dec x.dn)
  have HL := hid (show leftP x 7 = decide (x.dn = 0) from rfl)
  clear h
  unfold LeftC
  rw [HL.out, ← HE.out]
  clear HE HL
  go_enter Try.func113, Try.ntmps113
  go_wp2
  go_ret
  exact ⟨rfl, bid _⟩
set_option maxHeartbeats 1000000 in
theorem left_9 (h : PX w ρ r b x l) : LeftC w b x 9 := by
  have c : w.cell? ⟨b, 17, none⟩ = some (.int .i64 x.dn) := h.c 17
  have f := h.f 17
  have HE := hid (eq_dec x.dn)
  have HL := hid (show leftP x 9 = decide (x.dn = 0) from rfl)
  clear h
  unfold LeftC
  rw [HL.out, ← HE.out]
  clear HE HL
  go_enter Try.func113, Try.ntmps113
  go_wp2
  go_ret
  exact ⟨rfl, bid _⟩
set_option maxHeartbeats 1000000 in
theorem left_12 (w : World) (b : Nat) (x : PT) : LeftC w b x 12 := by
  go_enter Try.func113, Try.ntmps113
  go_wp2
  go_ret
  exact ⟨rfl, bid _⟩
set_option maxHeartbeats 1000000 in
theorem left_13 (w : World) (b : Nat) (x : PT) : LeftC w b x 13 := by
  go_enter Try.func113, Try.ntmps113
  go_wp2
  go_ret
  exact ⟨rfl, bid _⟩
set_option maxHeartbeats 1000000 in
theorem left_14 (w : World) (b : Nat) (x : PT) : LeftC w b x 14 := by
  go_enter Try.func113, Try.ntmps113
  go_wp2
  go_ret
  exact ⟨rfl, bid _⟩
set_option maxHeartbeats 1000000 in
theorem left_15 (w : World) (b : Nat) (x : PT) : LeftC w b x 15 := by
  go_enter Try.func113, Try.ntmps113
  go_wp2
  go_ret
  exact ⟨rfl, bid _⟩
set_option maxHeartbeats 1000000 in
theorem left_16 (w : World) (b : Nat) (x : PT) : LeftC w b x 16 := by
  go_enter Try.func113, Try.ntmps113
  go_wp2
  go_ret
  exact ⟨rfl, bid _⟩
set_option maxHeartbeats 1000000 in
theorem left_10 (h : PX w ρ r b x l) : LeftC w b x 10 := by
  have c : w.cell? ⟨b, 21, none⟩ = some (.bool x.claimed) := h.c 21
  have f := h.f 21
  have HL := hid (show leftP x 10 = x.claimed from rfl)
  clear h
  unfold LeftC
  rw [HL.out]
  clear HL
  go_enter Try.func113, Try.ntmps113
  go_wp2
  go_ret
  exact ⟨rfl, bid _⟩
set_option maxHeartbeats 1000000 in
theorem left_11 (h : PX w ρ r b x l) : LeftC w b x 11 := by
  have c : w.cell? ⟨b, 22, none⟩ = some (.bool x.phased) := h.c 22
  have f := h.f 22
  have HL := hid (show leftP x 11 = x.phased from rfl)
  clear h
  unfold LeftC
  rw [HL.out]
  clear HL
  go_enter Try.func113, Try.ntmps113
  go_wp2
  go_ret
  exact ⟨rfl, bid _⟩
set_option maxHeartbeats 1000000 in
theorem left_3 (h : PX w ρ r b x l) : LeftC w b x 3 := by
  have hlt := h.lt
  have c : w.cell? ⟨b, 17, none⟩ = some (.int .i64 x.dn) := h.c 17
  have f := h.f 17
  have c2 : w.cell? ⟨b, 9, none⟩ = some (l.vt) := h.c 9
  have f2 := h.f 9
  obtain ⟨a, n, hv, _⟩ := h.ins.wt.form
  rw [hv] at c2
  have HL := hid (show leftP x 3 = decide (x.dn < x.wt.length) from rfl)
  clear h hv
  unfold LeftC
  rw [HL.out]
  clear HL
  generalize x.wt.length = m at *
  go_enter Try.func113, Try.ntmps113
  go_wp2_with fail
  go_quiet (fail)
  go_wp2_with fail
  go_ret
  exact ⟨rfl, ⟨rfl, rfl, rfl, Nat.le_refl _, fun _ _ => rfl⟩⟩
set_option maxHeartbeats 1000000 in
theorem left_8 (h : PX w ρ r b x l) : LeftC w b x 8 := by
  have hlt := h.lt
  have c : w.cell? ⟨b, 17, none⟩ = some (.int .i64 x.dn) := h.c 17
  have f := h.f 17
  have c2 : w.cell? ⟨b, 8, none⟩ = some (.pointer (some ⟨l.wb, 0, none⟩)) := h.c 8
  have f2 := h.f 8
  have HC := hid (fun (y : Later w) => wLen_any l.wb x.mw x.ws x.asked y.v (h.ins.wr.below y.below))
  have HL := hid (show leftP x 8 = decide (x.dn < x.ws.length) from rfl)
  clear h
  unfold LeftC
  rw [HL.out]
  clear HL
  generalize x.ws.length = m at *
  go_enter Try.func113, Try.ntmps113
  go_wp2_with fail
  refine wp_region_later (by kernel_rfl) (by kernel_rfl) ?_
  repeat (go_big_quiet_step ((go_at_call 95; with_reducible exact later_call (HC.out _))))
  refine wpQuiet_nil ?_
  rintro _ ⟨y, rfl⟩
  go_wp2_with fail
  go_ret
  exact ⟨rfl, y.below⟩
set_option maxHeartbeats 1000000 in
theorem left_1 (h : PX w ρ r b x l) : LeftC w b x 1 := by
  have hlt := h.lt
  have c : w.cell? ⟨b, 17, none⟩ = some (.int .i64 x.dn) := h.c 17
  have f := h.f 17
  have c2 : w.cell? ⟨b, 7, none⟩ = some (.pointer (some ⟨l.rb, 0, none⟩)) := h.c 7
  have f2 := h.f 7
  have HC := hid (fun (y : Later w) => RdLen_any l.rb x.mr x.rs y.v (h.ins.rd.below y.below))
  have HL := hid (show leftP x 1 = decide (x.dn < x.rs.length) from rfl)
  clear h
  unfold LeftC
  rw [HL.out]
  clear HL
  generalize x.rs.length = m at *
  go_enter Try.func113, Try.ntmps113
  go_wp2_with fail
  refine wp_region_later (by kernel_rfl) (by kernel_rfl) ?_
  repeat (go_big_quiet_step ((go_at_call 135; with_reducible exact later_call (HC.out _))))
  refine wpQuiet_nil ?_
  rintro _ ⟨y, rfl⟩
  go_wp2_with fail
  go_ret
  exact ⟨rfl, y.below⟩
theorem odd_dec (a : Int) : (a % 2 == 1) = decide (a % 2 = 1) := by
  rw [Bool.eq_iff_iff]; simp
set_option maxHeartbeats 1000000 in
theorem left_0 (h : PX w ρ r b x l) : LeftC w b x 0 := by
  have c : w.cell? ⟨b, 17, none⟩ = some (.int .i64 x.dn) := h.c 17
  have f := h.f 17
  have c2 : w.cell? ⟨b, 20, none⟩ = some (.int .i64 x.now) := h.c 20
  have f2 := h.f 20
  have a1 := n_and1 x.now
  have HL := hid (show leftP x 0 = (decide (x.dn = 0) || decide (x.now % 2 = 1)) from rfl)
  clear h
  unfold LeftC
  rw [HL.out]
  clear HL
  by_cases hd : x.dn = 0
  · rw [hd] at c ⊢
    rw [decide_eq_true rfl, Bool.true_or]
    go_enter Try.func113, Try.ntmps113
    go_wp2_with fail
    go_ret
    exact ⟨rfl, bid _⟩
  · have hdb : ((x.dn : Int) == 0) = false := by rw [eq_dec]; exact decide_eq_false hd
    rw [decide_eq_false hd, Bool.false_or, ← odd_dec]
    generalize x.dn = n at *
    go_enter Try.func113, Try.ntmps113
    go_wp2_with fail
    go_ret
    exact ⟨rfl, bid _⟩
theorem left_any (h : PX w ρ r b x l) {p : Int} (hp : isPart p) : LeftC w b x p := by
  rcases hp with rfl | rfl | rfl | rfl | rfl | rfl | rfl | rfl | rfl | rfl | rfl | rfl | rfl | rfl | rfl | rfl | rfl
  · exact left_0 h
  · exact left_1 h
  · exact left_2 h
  · exact left_3 h
  · exact left_4 h
  · exact left_5 h
  · exact left_6 h
  · exact left_7 h
  · exact left_8 h
  · exact left_9 h
  · exact left_10 h
  · exact left_11 h
  · exact left_12 _ _ _
  · exact left_13 _ _ _
  · exact left_14 _ _ _
  · exact left_15 _ _ _
  · exact left_16 _ _ _

end Go.Proofs.Ytjfinnjmcnjciaa
