/-
  The program's attempt in its blocks: its own, its two sets, its lists; a number a block says whose it is. The program's attempt: whether a part has an access left; what comes with its last one. The program's attempt: what comes with the last access of a part; it goes on. The program's attempt goes on: it passes the parts of which no access is left. The program's attempt: what is asked; abort; Begin; Watch; Kill. The program's attempt: Begin; Watch; Write.
-/
import Derived.Test.YtjfinnjmcnjciaaTpV
import Derived.Test.YtjfinnjmcnjciaaRdW
import Derived.Test.YtjfinnjmcnjciaaWrQ
import Derived.Test.YtjfinnjmcnjciaaJl
import Derived.Test.YtjfinnjmcnjciaaClkS
import Derived.Test.YtjfinnjmcnjciaaClkE
import Derived.Test.YtjfinnjmcnjciaaStRw
import Derived.Test.YtjfinnjmcnjciaaPLoc
import Derived.Test.YtjfinnjmcnjciaaNode
import Derived.Deep.DeepCutAuto
import Derived.BigQuiet
import Derived.Test.YtjfinnjmcnjciaaRdR
namespace Go.Proofs.Ytjfinnjmcnjciaa
open Go.RowKit
attribute [local go_sem] Later.cell Later.frozen

/-- Where its lists lie. -/
structure PL where
  rb : Nat
  wb : Nat
  vt : Value
  va : Value
  vo : Value
  pa : Option Addr
  pc : Nat
def ptC (x : PT) (l : PL) : Array Value :=
  #[.int .i64 x.m.s, .int .i64 x.m.l, .int .i64 x.m.t, .int .i64 x.m.c, .int .i64 x.m.d, .int .i64 x.th, .int .i64 x.ck, .int .i64 x.top, .pointer (some ⟨l.rb, 0, none⟩), .pointer (some ⟨l.wb, 0, none⟩), l.vt, .bool x.alive, .bool x.sure, .int .i64 x.cause, .int .i64 x.stamp, .int .i64 x.made, .int .i64 x.val,
    .slice l.pa x.parts.length l.pc, .int .i64 x.dn, .int .i64 x.at_, .int .i64 x.row, .int .i64 x.saw, .int .i64 x.got, .int .i64 x.now, l.va, l.vo, .bool x.phased, .int .i64 x.bump.k, .int .i64 x.bump.s, .int .i64 x.bump.x, .int .i64 x.bump.p]
/-- What does not lie in its own block. -/
def PT.core (x : PT) : Nat × Nat × List Wd × List Wd × Nat × List Wd × List Int × List Int := (x.mr, x.mw, x.rs, x.ws, x.asked, x.wt, x.rows, x.old)
def PL.core (l : PL) : Nat × Nat × Value × Value × Value := (l.rb, l.wb, l.vt, l.va, l.vo)
/-- What lies in its other blocks. -/
structure PIn (w : World) (ρ : Nat → Nat) (r b : Nat) (x : PT) (l : PL) : Prop where
  rd : SetAt w l.rb x.mr x.rs
  wr : WSet w l.wb x.mw x.ws x.asked
  wt : WL w 0 l.vt x.wt
  rows : NL w 0 l.va x.rows
  old : JL w 0 l.vo x.old
  b1 : ρ b = r + 1
  b2 : ρ l.rb = r + 2
  b3 : ρ l.wb = r + 3
  b4 : ∀ k, l.vt.ownBlock = some k → ρ k = r + 4
  b5 : ∀ k, l.va.ownBlock = some k → ρ k = r + 5
  b6 : ∀ k, l.vo.ownBlock = some k → ρ k = r + 6
  wtl : x.wt.length ≤ 100
  oldl : x.old.length ≤ 16
  rowl : x.rows.length ≤ 16
structure PParts (w : World) (ρ : Nat → Nat) (r : Nat) (x : PT) (l : PL) : Prop where
  row : IntRow w l.pa x.parts.length x.parts
  b7 : ∀ a, l.pa = some a → 0 < x.parts.length → ρ a.block = r + 7 ∧ a.block < w.heap.size
  cap : x.parts.length ≤ l.pc
  few : l.pc ≤ 100
structure PX (w : World) (ρ : Nat → Nat) (r b : Nat) (x : PT) (l : PL) : Prop where
  blk : w.heap[b]? = some (.cells (ptC x l) 121 (0, 0))
  ins : PIn w ρ r b x l
  parts : PParts w ρ r x l

/-- The numbers of what there was are as they were. -/
def Gr (ρ ρ' : Nat → Nat) (w : World) : Prop := ∀ k, k < w.heap.size → ρ' k = ρ k
def Own (ρ : Nat → Nat) (r : Nat) : Nat → Prop := fun k => r < ρ k ∧ ρ k < r + 8
theorem Gr.refl (ρ : Nat → Nat) (w : World) : Gr ρ ρ w := fun _ _ => rfl
theorem Gr.trans {ρ ρ' ρ'' : Nat → Nat} {w w' : World} (h : Gr ρ ρ' w) (h' : Gr ρ' ρ'' w') (hs : w.heap.size ≤ w'.heap.size) : Gr ρ ρ'' w := fun k hk => (h' k (Nat.lt_of_lt_of_le hk hs)).trans (h k hk)
/-- New blocks are of that number. -/
def newR (ρ : Nat → Nat) (n c : Nat) : Nat → Nat := fun k => if k < n then ρ k else c
theorem newR_gr (ρ : Nat → Nat) (w : World) (c : Nat) : Gr ρ (newR ρ w.heap.size c) w := fun _ hk => if_pos hk
theorem newR_old {ρ : Nat → Nat} {n c k : Nat} (h : k < n) : newR ρ n c k = ρ k := if_pos h
theorem newR_new {ρ : Nat → Nat} {n c k : Nat} (h : n ≤ k) : newR ρ n c k = c := if_neg (by omega)

section
variable {w w' : World} {ρ ρ' : Nat → Nat} {r b : Nat} {x x' : PT} {l l' : PL}
theorem PX.lt (h : PX w ρ r b x l) : b < w.heap.size := lt_of_block h.blk
theorem JL.lt' {w : World} {B : Nat} {v : Value} {ns : List Int} (h : JL w B v ns) {k : Nat} (hk : v.ownBlock = some k) : k < w.heap.size := (h.old hk).2
theorem PIn.kept {S : Nat → Prop} (h : PIn w ρ r b x l) (hw : Wrote S w w') (hs : ∀ k, r + 1 < ρ k → ρ k < r + 7 → ¬ S k) : PIn w' ρ r b x l :=
  ⟨h.rd.keep (hw.block _ h.rd.lt (hs _ (by rw [h.b2]; omega) (by rw [h.b2]; omega))), h.wr.keep (hw.block _ h.wr.lt (hs _ (by rw [h.b3]; omega) (by rw [h.b3]; omega))),
    h.wt.kept hw fun k hk => hs k (by rw [h.b4 k hk]; omega) (by rw [h.b4 k hk]; omega), h.rows.kept hw fun k hk => hs k (by rw [h.b5 k hk]; omega) (by rw [h.b5 k hk]; omega),
    h.old.kept hw fun k hk => hs k (by rw [h.b6 k hk]; omega) (by rw [h.b6 k hk]; omega), h.b1, h.b2, h.b3, h.b4, h.b5, h.b6, h.wtl, h.oldl, h.rowl⟩
theorem PParts.kept {S : Nat → Prop} (h : PParts w ρ r x l) (hw : Wrote S w w') (hs : ∀ k, ρ k = r + 7 → ¬ S k) : PParts w' ρ r x l :=
  ⟨h.row.kept hw fun a ha hl => hs _ (h.b7 a ha hl).1, fun a ha hl => ⟨(h.b7 a ha hl).1, Nat.lt_of_lt_of_le (h.b7 a ha hl).2 hw.size⟩, h.cap, h.few⟩
theorem PX.kept {S : Nat → Prop} (h : PX w ρ r b x l) (hw : Wrote S w w') (hs : ∀ k, Own ρ r k → ¬ S k) : PX w' ρ r b x l :=
  ⟨(hw.block _ h.lt (hs _ ⟨by rw [h.ins.b1]; omega, by rw [h.ins.b1]; omega⟩)).trans h.blk, h.ins.kept hw fun k h1 h2 => hs k ⟨by omega, by omega⟩, h.parts.kept hw fun k hk => hs k ⟨by omega, by omega⟩⟩
theorem PX.below (h : PX w ρ r b x l) (hb : Below w.heap.size w w') : PX w' ρ r b x l := h.kept (Wrote.of_below hb (fun _ => False)) (fun _ _ h => h)
theorem PIn.gr (h : PIn w ρ r b x l) (hb : b < w.heap.size) (hg : Gr ρ ρ' w) : PIn w ρ' r b x l :=
  ⟨h.rd, h.wr, h.wt, h.rows, h.old, (hg _ hb).trans h.b1, (hg _ h.rd.lt).trans h.b2, (hg _ h.wr.lt).trans h.b3, fun k hk => (hg k (h.wt.old hk).2).trans (h.b4 k hk), fun k hk => (hg k (h.rows.old hk).2).trans (h.b5 k hk), fun k hk => (hg k (h.old.lt' hk)).trans (h.b6 k hk), h.wtl, h.oldl, h.rowl⟩
theorem PParts.gr (h : PParts w ρ r x l) (hg : Gr ρ ρ' w) : PParts w ρ' r x l := ⟨h.row, fun a ha hl => ⟨(hg _ (h.b7 a ha hl).2).trans (h.b7 a ha hl).1, (h.b7 a ha hl).2⟩, h.cap, h.few⟩
theorem PX.gr (h : PX w ρ r b x l) (hg : Gr ρ ρ' w) : PX w ρ' r b x l := ⟨h.blk, h.ins.gr h.lt hg, h.parts.gr hg⟩
theorem PIn.same (h : PIn w ρ r b x l) (hx : x'.core = x.core) (hl : l'.core = l.core) : PIn w ρ r b x' l' := by
  simp only [PT.core, PL.core, Prod.mk.injEq] at hx hl
  obtain ⟨e1, e2, e3, e4, e5, e6, e7, e8⟩ := hx
  obtain ⟨k1, k2, k3, k4, k5⟩ := hl
  exact ⟨by rw [k1, e1, e3]; exact h.rd, by rw [k2, e2, e4, e5]; exact h.wr, by rw [k3, e6]; exact h.wt, by rw [k4, e7]; exact h.rows, by rw [k5, e8]; exact h.old, h.b1, by rw [k1]; exact h.b2, by rw [k2]; exact h.b3, by rw [k3]; exact h.b4, by rw [k4]; exact h.b5, by rw [k5]; exact h.b6, by rw [e6]; exact h.wtl, by rw [e8]; exact h.oldl, by rw [e7]; exact h.rowl⟩
/-- Its own block turned. -/
theorem PX.upd (h : PX w ρ r b x l) (hb : w'.heap[b]? = some (.cells (ptC x' l') 121 (0, 0))) (hw : Wrote (fun k => k = b) w w') (hx : x'.core = x.core) (hl : l'.core = l.core) (hp : x'.parts = x.parts) (hpl : l'.pa = l.pa ∧ l'.pc = l.pc) : PX w' ρ r b x' l' := by
  have hb1 := h.ins.b1
  refine ⟨hb, (h.ins.same hx hl).kept hw fun k h1 h2 e => by subst e; omega, ?_⟩
  have h2 : PParts w ρ r x' l' := ⟨by rw [hp, hpl.1]; exact h.parts.row, by rw [hp, hpl.1]; exact h.parts.b7, by rw [hp, hpl.2]; exact h.parts.cap, by rw [hpl.2]; exact h.parts.few⟩
  exact h2.kept hw fun k hk e => by subst e; omega
end
/-- Its cells. -/
theorem PX.facts {w : World} {ρ : Nat → Nat} {r b : Nat} {x : PT} {l : PL} (h : PX w ρ r b x l) :
    (w.cell? ⟨b, 0, none⟩ = some (.int .i64 x.m.s) ∧ w.cell? ⟨b, 1, none⟩ = some (.int .i64 x.m.l) ∧ w.cell? ⟨b, 2, none⟩ = some (.int .i64 x.m.t) ∧ w.cell? ⟨b, 3, none⟩ = some (.int .i64 x.m.c) ∧ w.cell? ⟨b, 4, none⟩ = some (.int .i64 x.m.d)) ∧
    (w.cell? ⟨b, 5, none⟩ = some (.int .i64 x.th) ∧ w.cell? ⟨b, 6, none⟩ = some (.int .i64 x.ck) ∧ w.cell? ⟨b, 7, none⟩ = some (.int .i64 x.top) ∧ w.cell? ⟨b, 8, none⟩ = some (.pointer (some ⟨l.rb, 0, none⟩)) ∧ w.cell? ⟨b, 9, none⟩ = some (.pointer (some ⟨l.wb, 0, none⟩)) ∧ w.cell? ⟨b, 10, none⟩ = some l.vt) ∧
    (w.cell? ⟨b, 11, none⟩ = some (.bool x.alive) ∧ w.cell? ⟨b, 12, none⟩ = some (.bool x.sure) ∧ w.cell? ⟨b, 13, none⟩ = some (.int .i64 x.cause) ∧ w.cell? ⟨b, 14, none⟩ = some (.int .i64 x.stamp) ∧ w.cell? ⟨b, 15, none⟩ = some (.int .i64 x.made) ∧ w.cell? ⟨b, 16, none⟩ = some (.int .i64 x.val)) ∧
    (w.cell? ⟨b, 17, none⟩ = some (.slice l.pa x.parts.length l.pc) ∧ w.cell? ⟨b, 18, none⟩ = some (.int .i64 x.dn)) ∧
    (w.cell? ⟨b, 19, none⟩ = some (.int .i64 x.at_) ∧ w.cell? ⟨b, 20, none⟩ = some (.int .i64 x.row) ∧ w.cell? ⟨b, 21, none⟩ = some (.int .i64 x.saw) ∧ w.cell? ⟨b, 22, none⟩ = some (.int .i64 x.got) ∧ w.cell? ⟨b, 23, none⟩ = some (.int .i64 x.now) ∧ w.cell? ⟨b, 24, none⟩ = some l.va ∧ w.cell? ⟨b, 25, none⟩ = some l.vo ∧ w.cell? ⟨b, 26, none⟩ = some (.bool x.phased)) ∧
    (w.cell? ⟨b, 27, none⟩ = some (.int .i64 x.bump.k) ∧ w.cell? ⟨b, 28, none⟩ = some (.int .i64 x.bump.s) ∧ w.cell? ⟨b, 29, none⟩ = some (.int .i64 x.bump.x) ∧ w.cell? ⟨b, 30, none⟩ = some (.int .i64 x.bump.p)) ∧ ∀ i, w.frozen? ⟨b, i, none⟩ = false :=
  ⟨⟨cell_of_blk h.blk 0, cell_of_blk h.blk 1, cell_of_blk h.blk 2, cell_of_blk h.blk 3, cell_of_blk h.blk 4⟩, ⟨cell_of_blk h.blk 5, cell_of_blk h.blk 6, cell_of_blk h.blk 7, cell_of_blk h.blk 8, cell_of_blk h.blk 9, cell_of_blk h.blk 10⟩,
    ⟨cell_of_blk h.blk 11, cell_of_blk h.blk 12, cell_of_blk h.blk 13, cell_of_blk h.blk 14, cell_of_blk h.blk 15, cell_of_blk h.blk 16⟩, ⟨cell_of_blk h.blk 17, cell_of_blk h.blk 18⟩,
    ⟨cell_of_blk h.blk 19, cell_of_blk h.blk 20, cell_of_blk h.blk 21, cell_of_blk h.blk 22, cell_of_blk h.blk 23, cell_of_blk h.blk 24, cell_of_blk h.blk 25, cell_of_blk h.blk 26⟩, ⟨cell_of_blk h.blk 27, cell_of_blk h.blk 28, cell_of_blk h.blk 29, cell_of_blk h.blk 30⟩, fun i => frozen_of_blk h.blk i⟩

end Go.Proofs.Ytjfinnjmcnjciaa

namespace Go.Proofs.Ytjfinnjmcnjciaa
open Go.RowKit
attribute [local go_sem] Later.cell Later.frozen

abbrev LeftC (w : World) (b : Nat) (x : PT) (p : Int) : Prop := Calls Try.prog 129 #[.pointer (some ⟨b, 0, none⟩), .int .i64 p] w fun e w' => e = .returned (.bool (leftP x p)) ∧ Below w.heap.size w w'
theorem lt_dec (a b : Nat) : decide ((a : Int) < (b : Int)) = decide (a < b) := by rw [decide_eq_decide]; omega
theorem eq_dec (a : Nat) : ((a : Int) == 0) = decide (a = 0) := by
  rw [Bool.eq_iff_iff]; simp
variable {w : World} {ρ : Nat → Nat} {r b : Nat} {x : PT} {l : PL}
set_option maxHeartbeats 1000000 in
theorem left_0 (h : PX w ρ r b x l) : LeftC w b x 0 := by
  have c := h.facts.2.2.2.1.2
  have f := h.facts.2.2.2.2.2.2 18
  have HE := hid (eq_dec x.dn)
  have HL := hid (show leftP x 0 = decide (x.dn = 0) from rfl)
  clear h
  unfold LeftC
  rw [HL.out, ← HE.out]
  clear HE HL
  go_enter Try.func129, Try.ntmps129
  go_wp2
  go_ret
  exact ⟨rfl, bid _⟩
set_option maxHeartbeats 1000000 in
theorem left_1 (h : PX w ρ r b x l) : LeftC w b x 1 := by
  have c := h.facts.2.2.2.1.2
  have f := h.facts.2.2.2.2.2.2 18
  have HE := hid (eq_dec x.dn)
  have HL := hid (show leftP x 1 = decide (x.dn = 0) from rfl)
  clear h
  unfold LeftC
  rw [HL.out, ← HE.out]
  clear HE HL
  go_enter Try.func129, Try.ntmps129
  go_wp2
  go_ret
  exact ⟨rfl, bid _⟩
set_option maxHeartbeats 1000000 in
theorem left_2 (h : PX w ρ r b x l) : LeftC w b x 2 := by
  have c := h.facts.2.2.2.1.2
  have f := h.facts.2.2.2.2.2.2 18
  have HE := hid (eq_dec x.dn)
  have HL := hid (show leftP x 2 = decide (x.dn = 0) from rfl)
  clear h
  unfold LeftC
  rw [HL.out, ← HE.out]
  clear HE HL
  go_enter Try.func129, Try.ntmps129
  go_wp2
  go_ret
  exact ⟨rfl, bid _⟩
set_option maxHeartbeats 1000000 in
theorem left_3 (h : PX w ρ r b x l) : LeftC w b x 3 := by
  have c := h.facts.2.2.2.1.2
  have f := h.facts.2.2.2.2.2.2 18
  have HE := hid (eq_dec x.dn)
  have HL := hid (show leftP x 3 = decide (x.dn = 0) from rfl)
  clear h
  unfold LeftC
  rw [HL.out, ← HE.out]
  clear HE HL
  go_enter Try.func129, Try.ntmps129
  go_wp2
  go_ret
  exact ⟨rfl, bid _⟩
set_option maxHeartbeats 1000000 in
theorem left_6 (h : PX w ρ r b x l) : LeftC w b x 6 := by
  have c := h.facts.2.2.2.1.2
  have f := h.facts.2.2.2.2.2.2 18
  have HE := hid (eq_dec x.dn)
  have HL := hid (show leftP x 6 = decide (x.dn = 0) from rfl)
  clear h
  unfold LeftC
  rw [HL.out, ← HE.out]
  clear HE HL
  go_enter Try.func129, Try.ntmps129
  go_wp2
  go_ret
  exact ⟨rfl, bid _⟩
set_option maxHeartbeats 1000000 in
theorem left_14 (w : World) (b : Nat) (x : PT) : LeftC w b x 14 := by
  go_enter Try.func129, Try.ntmps129
  go_wp2
  go_ret
  exact ⟨rfl, bid _⟩
set_option maxHeartbeats 1000000 in
theorem left_15 (w : World) (b : Nat) (x : PT) : LeftC w b x 15 := by
  go_enter Try.func129, Try.ntmps129
  go_wp2
  go_ret
  exact ⟨rfl, bid _⟩
set_option maxHeartbeats 1000000 in
theorem left_16 (w : World) (b : Nat) (x : PT) : LeftC w b x 16 := by
  go_enter Try.func129, Try.ntmps129
  go_wp2
  go_ret
  exact ⟨rfl, bid _⟩
set_option maxHeartbeats 1000000 in
theorem left_17 (w : World) (b : Nat) (x : PT) : LeftC w b x 17 := by
  go_enter Try.func129, Try.ntmps129
  go_wp2
  go_ret
  exact ⟨rfl, bid _⟩
set_option maxHeartbeats 1000000 in
theorem left_13 (h : PX w ρ r b x l) : LeftC w b x 13 := by
  have c := h.facts.2.2.2.2.1.2.2.2.2.2.2.2
  have f := h.facts.2.2.2.2.2.2 26
  clear h
  go_enter Try.func129, Try.ntmps129
  go_wp2
  go_ret
  exact ⟨rfl, bid _⟩
theorem ne9_dec (z : Int) : (z != 9) = decide (z ≠ 9) := by
  rw [Bool.eq_iff_iff]; simp
set_option maxHeartbeats 1000000 in
theorem left_8 (h : PX w ρ r b x l) : LeftC w b x 8 := by
  have c := h.facts.2.2.2.2.2.1.2.1
  have f := h.facts.2.2.2.2.2.2 28
  have HL := hid (show leftP x 8 = (x.bump.s != 9) from (ne9_dec _).symm)
  clear h
  unfold LeftC
  rw [HL.out]
  clear HL
  go_enter Try.func129, Try.ntmps129
  go_wp2
  go_ret
  exact ⟨rfl, bid _⟩
set_option maxHeartbeats 1000000 in
theorem left_4 (h : PX w ρ r b x l) : LeftC w b x 4 := by
  have hlt := h.lt
  have c := h.facts.2.2.2.1.2
  have f := h.facts.2.2.2.2.2.2 18
  have c2 := h.facts.2.1.2.2.2.2.2
  have f2 := h.facts.2.2.2.2.2.2 10
  obtain ⟨a, n, hv, _⟩ := h.ins.wt.form
  rw [hv] at c2
  have HL := hid (show leftP x 4 = decide (x.dn < x.wt.length) from rfl)
  clear h hv
  unfold LeftC
  rw [HL.out]
  clear HL
  generalize x.wt.length = m at *
  go_enter Try.func129, Try.ntmps129
  go_wp2_with fail
  go_quiet (fail)
  go_wp2_with fail
  go_ret
  exact ⟨rfl, ⟨rfl, rfl, rfl, Nat.le_refl _, fun _ _ => rfl⟩⟩
set_option maxHeartbeats 1000000 in
theorem left_11 (h : PX w ρ r b x l) : LeftC w b x 11 := by
  have hlt := h.lt
  have c := h.facts.2.2.2.1.2
  have f := h.facts.2.2.2.2.2.2 18
  have c2 := h.facts.2.2.2.2.1.2.2.2.2.2.1
  have f2 := h.facts.2.2.2.2.2.2 24
  obtain ⟨a, n, hv, _⟩ := h.ins.rows.form
  rw [hv] at c2
  have HL := hid (show leftP x 11 = decide (x.dn < x.rows.length) from rfl)
  clear h hv
  unfold LeftC
  rw [HL.out]
  clear HL
  generalize x.rows.length = m at *
  go_enter Try.func129, Try.ntmps129
  go_wp2_with fail
  go_quiet (fail)
  go_wp2_with fail
  go_ret
  exact ⟨rfl, ⟨rfl, rfl, rfl, Nat.le_refl _, fun _ _ => rfl⟩⟩
set_option maxHeartbeats 1000000 in
theorem left_12 (h : PX w ρ r b x l) : LeftC w b x 12 := by
  have hlt := h.lt
  have c := h.facts.2.2.2.1.2
  have f := h.facts.2.2.2.2.2.2 18
  have c2 := h.facts.2.2.2.2.1.2.2.2.2.2.2.1
  have f2 := h.facts.2.2.2.2.2.2 25
  obtain ⟨a, n, hv, _⟩ := h.ins.old.form
  rw [hv] at c2
  have HL := hid (show leftP x 12 = decide (x.dn < x.old.length) from rfl)
  clear h hv
  unfold LeftC
  rw [HL.out]
  clear HL
  generalize x.old.length = m at *
  go_enter Try.func129, Try.ntmps129
  go_wp2_with fail
  go_quiet (fail)
  go_wp2_with fail
  go_ret
  exact ⟨rfl, ⟨rfl, rfl, rfl, Nat.le_refl _, fun _ _ => rfl⟩⟩
theorem twice {a n : Nat} (h : n ≤ 16) : decide ((a : Int) < wrap64 (2 * (n : Int))) = decide (a < 2 * n) := by
  rw [decide_eq_decide]; unfold wrap64; omega
set_option maxHeartbeats 1000000 in
theorem left_7 (h : PX w ρ r b x l) : LeftC w b x 7 := by
  have hlt := h.lt
  have c := h.facts.2.2.2.1.2
  have f := h.facts.2.2.2.2.2.2 18
  have c2 := h.facts.2.2.2.2.1.2.2.2.2.2.1
  have f2 := h.facts.2.2.2.2.2.2 24
  obtain ⟨a, n, hv, _⟩ := h.ins.rows.form
  rw [hv] at c2
  have HL := hid (show leftP x 7 = decide ((x.dn : Int) < wrap64 (2 * (x.rows.length : Int))) from (twice h.ins.rowl).symm)
  clear h hv
  unfold LeftC
  rw [HL.out]
  clear HL
  generalize x.rows.length = m at *
  go_enter Try.func129, Try.ntmps129
  go_wp2_with fail
  go_quiet (fail)
  go_wp2_with fail
  go_ret
  exact ⟨rfl, ⟨rfl, rfl, rfl, Nat.le_refl _, fun _ _ => rfl⟩⟩
set_option maxHeartbeats 1000000 in
theorem left_10 (h : PX w ρ r b x l) : LeftC w b x 10 := by
  have hlt := h.lt
  have c := h.facts.2.2.2.1.2
  have f := h.facts.2.2.2.2.2.2 18
  have c2 := h.facts.2.1.2.2.2.2.1
  have f2 := h.facts.2.2.2.2.2.2 9
  have HC := hid (fun (y : Later w) => wLen_any l.wb x.mw x.ws x.asked y.v (h.ins.wr.below y.below))
  have HL := hid (show leftP x 10 = decide (x.dn < x.ws.length) from rfl)
  clear h
  unfold LeftC
  rw [HL.out]
  clear HL
  generalize x.ws.length = m at *
  go_enter Try.func129, Try.ntmps129
  go_wp2_with fail
  refine wp_region_later (by kernel_rfl) (by kernel_rfl) ?_
  repeat (go_big_quiet_step ((go_at_call 95; with_reducible exact later_call (HC.out _))))
  refine wpQuiet_nil ?_
  rintro _ ⟨y, rfl⟩
  go_wp2_with fail
  go_ret
  exact ⟨rfl, y.below⟩

/-! ### alone; checking -/
abbrev AloneC (w : World) (b : Nat) (x : PT) : Prop := Calls Try.prog 146 #[.pointer (some ⟨b, 0, none⟩)] w fun e w' => e = .returned (.bool (aloneP x)) ∧ Below w.heap.size w w'
theorem eqb_dec (a b : Int) : (a == b) = decide (a = b) := by
  rw [Bool.eq_iff_iff]; simp
set_option maxHeartbeats 1000000 in
theorem alone_any (h : PX w ρ r b x l) : AloneC w b x := by
  have hlt := h.lt
  have c1 := h.facts.2.2.2.2.2.1.1
  have c2 := h.facts.2.2.1.2.2.2.2.1
  have c3 := h.facts.2.2.1.2.2.2.1
  have f1 := h.facts.2.2.2.2.2.2 27
  have f2 := h.facts.2.2.2.2.2.2 15
  have f3 := h.facts.2.2.2.2.2.2 14
  clear h
  by_cases hk : x.bump.k = 1
  · have HL := hid (show aloneP x = (x.made == wrap64 (x.stamp + 1)) from by unfold aloneP; rw [hk, eqb_dec]; simp)
    unfold AloneC
    rw [HL.out]
    rw [hk] at c1
    clear HL
    go_enter Try.func146, Try.ntmps146
    go_wp2_with fail
    go_quiet (fail)
    go_wp2_with fail
    go_ret
    exact ⟨rfl, ⟨rfl, rfl, rfl, Nat.le_refl _, fun _ _ => rfl⟩⟩
  · have HL := hid (show aloneP x = false from by unfold aloneP; rw [decide_eq_false hk]; rfl)
    unfold AloneC
    rw [HL.out]
    have hkb : (x.bump.k == 1) = false := by rw [eqb_dec, decide_eq_false hk]
    clear HL
    go_enter Try.func146, Try.ntmps146
    go_wp2_with fail
    go_quiet (fail)
    go_wp2_with fail
    go_ret
    exact ⟨rfl, ⟨rfl, rfl, rfl, Nat.le_refl _, fun _ _ => rfl⟩⟩
set_option maxHeartbeats 1000000 in
theorem left_9 (h : PX w ρ r b x l) : LeftC w b x 9 := by
  have HA := hid (alone_any h)
  cases ha : aloneP x with
  | true =>
    have HL := hid (show leftP x 9 = false from if_pos ha)
    unfold AloneC at HA
    rw [ha] at HA
    clear h ha
    unfold LeftC
    rw [HL.out]
    clear HL
    go_enter Try.func129, Try.ntmps129
    go_wp2_with (go_at_call 146; go_must ((with_reducible refine HA.out.mono ?_); rintro e w1 ⟨rfl, hb⟩; have HB := hid hb; clear hb))
    go_ret
    exact ⟨rfl, HB.out⟩
  | false =>
    have HL := hid (show leftP x 9 = decide (x.dn < x.rs.length) from (show leftP x 9 = (if aloneP x = true then false else decide (x.dn < x.rs.length)) from rfl).trans (if_neg (by rw [ha]; exact Bool.false_ne_true)))
    have H := hid h
    unfold AloneC at HA
    rw [ha] at HA
    clear h ha
    unfold LeftC
    rw [HL.out]
    clear HL
    go_enter Try.func129, Try.ntmps129
    go_upto_region 18 with (go_at_call 146; go_must ((with_reducible refine HA.out.mono ?_); rintro e w1 ⟨rfl, hb⟩; have HB := hid hb; clear hb))
    have h := H.out.below HB.out
    have hlt := h.lt
    have c := h.facts.2.2.2.1.2
    have f := h.facts.2.2.2.2.2.2 18
    have c2 := h.facts.2.1.2.2.2.1
    have f2 := h.facts.2.2.2.2.2.2 8
    have HC := hid (fun (y : Later w1) => RdLen_any l.rb x.mr x.rs y.v (h.ins.rd.below y.below))
    clear h H HA
    refine wp_region_later (by kernel_rfl) (by kernel_rfl) ?_
    repeat (go_big_quiet_step ((go_at_call 135; with_reducible exact later_call (HC.out _))))
    refine wpQuiet_nil ?_
    rintro _ ⟨y, rfl⟩
    go_wp2_with fail
    go_ret
    exact ⟨rfl, bthen HB.out y.below⟩

/-- The parts that are asked for here. -/
def isPart (p : Int) : Prop := p = 0 ∨ p = 1 ∨ p = 2 ∨ p = 3 ∨ p = 4 ∨ p = 6 ∨ p = 7 ∨ p = 8 ∨ p = 9 ∨ p = 10 ∨ p = 11 ∨ p = 12 ∨ p = 13 ∨ p = 14 ∨ p = 15 ∨ p = 16 ∨ p = 17
theorem left_any (h : PX w ρ r b x l) {p : Int} (hp : isPart p) : LeftC w b x p := by
  rcases hp with rfl | rfl | rfl | rfl | rfl | rfl | rfl | rfl | rfl | rfl | rfl | rfl | rfl | rfl | rfl | rfl | rfl
  · exact left_0 h
  · exact left_1 h
  · exact left_2 h
  · exact left_3 h
  · exact left_4 h
  · exact left_6 h
  · exact left_7 h
  · exact left_8 h
  · exact left_9 h
  · exact left_10 h
  · exact left_11 h
  · exact left_12 h
  · exact left_13 h
  · exact left_14 _ _ _
  · exact left_15 _ _ _
  · exact left_16 _ _ _
  · exact left_17 _ _ _

end Go.Proofs.Ytjfinnjmcnjciaa

namespace Go.Proofs.Ytjfinnjmcnjciaa
open Go.RowKit
attribute [local go_sem] Later.cell Later.frozen

abbrev PassC (w : World) (ρ : Nat → Nat) (r b : Nat) (x : PT) (l : PL) (p : Int) : Prop := Calls Try.prog 130 #[.pointer (some ⟨b, 0, none⟩), .int .i64 p] w fun e w' => e = .returned (.tuple #[]) ∧ PX w' ρ r b (passP x p) l ∧ Wrote (Own ρ r) w w'
section
variable {w : World} {ρ : Nat → Nat} {r b : Nat} {x : PT} {l : PL}
theorem PParts.same {x' : PT} {l' : PL} (h : PParts w ρ r x l) (hp : x'.parts = x.parts) (h1 : l'.pa = l.pa) (h2 : l'.pc = l.pc) : PParts w ρ r x' l' :=
  ⟨by rw [hp, h1]; exact h.row, by rw [hp, h1]; exact h.b7, by rw [hp, h2]; exact h.cap, by rw [h2]; exact h.few⟩
theorem PX.own (h : PX w ρ r b x l) : Own ρ r b := ⟨by rw [h.ins.b1]; omega, by rw [h.ins.b1]; omega⟩
theorem PX.wr1 (h : PX w ρ r b x l) {w' : World} (hw : Wrote (fun k => k = b) w w') : Wrote (Own ρ r) w w' := hw.mono fun k _ e => by subst e; exact h.own
/-- Its set of reads has one more. -/
theorem PX.reads (h : PX w ρ r b x l) {w' : World} {rs' : List Wd} (hs : SetAt w' l.rb x.mr rs') (hw : Wrote (fun k => k = l.rb) w w') : PX w' ρ r b { x with rs := rs' } l := by
  have i := h.ins
  have h2 := i.b2
  have hb := i.b1
  have k := i.kept (S := fun k => k = l.rb ∧ False) (w' := w) (Wrote.refl _ _) (fun _ _ _ h => h.2)
  refine ⟨(hw.block _ h.lt (fun e => by subst e; omega)).trans h.blk, ⟨hs, i.wr.keep (hw.block _ i.wr.lt (fun e => by have := i.b3; rw [e] at this; omega)), i.wt.kept hw fun k hk e => (by subst e; have := i.b4 _ hk; omega), i.rows.kept hw fun k hk e => (by subst e; have := i.b5 _ hk; omega), i.old.kept hw fun k hk e => (by subst e; have := i.b6 _ hk; omega), i.b1, i.b2, i.b3, i.b4, i.b5, i.b6, i.wtl, i.oldl, i.rowl⟩, ?_⟩
  exact (h.parts.kept hw fun k hk e => by subst e; omega).same rfl rfl rfl
theorem PX.writes (h : PX w ρ r b x l) {w' : World} {ws' : List Wd} {n : Nat} (hs : WSet w' l.wb x.mw ws' n) (hw : Wrote (fun k => k = l.wb) w w') : PX w' ρ r b { x with ws := ws', asked := n } l := by
  have i := h.ins
  have h2 := i.b3
  have hb := i.b1
  refine ⟨(hw.block _ h.lt (fun e => by subst e; omega)).trans h.blk, ⟨i.rd.keep (hw.block _ i.rd.lt (fun e => by have := i.b2; rw [e] at this; omega)), hs, i.wt.kept hw fun k hk e => (by subst e; have := i.b4 _ hk; omega), i.rows.kept hw fun k hk e => (by subst e; have := i.b5 _ hk; omega), i.old.kept hw fun k hk e => (by subst e; have := i.b6 _ hk; omega), i.b1, i.b2, i.b3, i.b4, i.b5, i.b6, i.wtl, i.oldl, i.rowl⟩, ?_⟩
  exact (h.parts.kept hw fun k hk e => by subst e; omega).same rfl rfl rfl
theorem PX.ownR (h : PX w ρ r b x l) {w' : World} (hw : Wrote (fun k => k = l.rb) w w') : Wrote (Own ρ r) w w' := hw.mono fun k _ e => by subst e; exact ⟨by rw [h.ins.b2]; omega, by rw [h.ins.b2]; omega⟩
theorem PX.ownW (h : PX w ρ r b x l) {w' : World} (hw : Wrote (fun k => k = l.wb) w w') : Wrote (Own ρ r) w w' := hw.mono fun k _ e => by subst e; exact ⟨by rw [h.ins.b3]; omega, by rw [h.ins.b3]; omega⟩

set_option maxHeartbeats 1000000 in
theorem pass_no (p : Int) (hp : p = 0 ∨ p = 1 ∨ p = 2 ∨ p = 3 ∨ p = 4 ∨ p = 6 ∨ p = 7 ∨ p = 8 ∨ p = 9 ∨ p = 10 ∨ p = 11 ∨ p = 12 ∨ p = 13) (h : PX w ρ r b x l) : PassC w ρ r b x l p := by
  have H := hid h
  clear h
  have h1 : (p == 14) = false := by rcases hp with rfl | rfl | rfl | rfl | rfl | rfl | rfl | rfl | rfl | rfl | rfl | rfl | rfl <;> rfl
  have h2 : (p == 15) = false := by rcases hp with rfl | rfl | rfl | rfl | rfl | rfl | rfl | rfl | rfl | rfl | rfl | rfl | rfl <;> rfl
  have h3 : (p == 16) = false := by rcases hp with rfl | rfl | rfl | rfl | rfl | rfl | rfl | rfl | rfl | rfl | rfl | rfl | rfl <;> rfl
  have h4 : (p == 17) = false := by rcases hp with rfl | rfl | rfl | rfl | rfl | rfl | rfl | rfl | rfl | rfl | rfl | rfl | rfl <;> rfl
  have HP := hid (show passP x p = x from by rcases hp with rfl | rfl | rfl | rfl | rfl | rfl | rfl | rfl | rfl | rfl | rfl | rfl | rfl <;> rfl)
  clear hp
  go_enter Try.func130, Try.ntmps130
  go_wp2
  go_end0
  exact ⟨rfl, by rw [HP.out]; exact H.out, Wrote.refl _ _⟩
set_option maxHeartbeats 1000000 in
theorem pass_15 (h : PX w ρ r b x l) : PassC w ρ r b x l 15 := by
  have H := hid h
  have c1 := h.facts.2.2.2.2.1.2.2.2.2.1
  have c2 := h.facts.2.2.1.2.2.2.1
  have f1 := h.facts.2.2.2.2.2.2 23
  have f2 := h.facts.2.2.2.2.2.2 14
  clear h
  go_enter Try.func130, Try.ntmps130
  go_wp2
  go_end0
  have hw := (Wrote.refl (fun k => k = b) w).setCell (p := ⟨b, 14, none⟩) (fun _ => rfl) (.int .i64 x.now)
  exact ⟨rfl, H.out.upd (x' := { x with stamp := x.now }) (l' := l) (blk_setCell H.out.blk 14 _) hw rfl rfl rfl ⟨rfl, rfl⟩, H.out.wr1 hw⟩
set_option maxHeartbeats 1000000 in
theorem pass_16 (h : PX w ρ r b x l) : PassC w ρ r b x l 16 := by
  have H := hid h
  have c2 := h.facts.2.2.1.2.1
  have f2 := h.facts.2.2.2.2.2.2 12
  clear h
  go_enter Try.func130, Try.ntmps130
  go_wp2
  go_end0
  have hw := (Wrote.refl (fun k => k = b) w).setCell (p := ⟨b, 12, none⟩) (fun _ => rfl) (.bool true)
  exact ⟨rfl, H.out.upd (x' := { x with sure := true }) (l' := l) (blk_setCell H.out.blk 12 _) hw rfl rfl rfl ⟨rfl, rfl⟩, H.out.wr1 hw⟩
set_option maxHeartbeats 1000000 in
theorem pass_14 (h : PX w ρ r b x l) : PassC w ρ r b x l 14 := by
  have H := hid h
  have c1 := h.facts.2.2.2.2.1.2.2.2.1
  have c2 := h.facts.2.2.1.2.2.2.2.2
  have f1 := h.facts.2.2.2.2.2.2 22
  have f2 := h.facts.2.2.2.2.2.2 16
  have hw := (Wrote.refl (fun k => k = b) w).setCell (p := ⟨b, 16, none⟩) (fun _ => rfl) (.int .i64 x.got)
  have H1 := hid (H.out.upd (x' := { x with val := x.got }) (l' := l) (blk_setCell H.out.blk 16 _) hw rfl rfl rfl ⟨rfl, rfl⟩)
  have HW := hid (H.out.wr1 hw)
  clear h hw
  go_enter Try.func130, Try.ntmps130
  go_upto_region 3 with fail
  refine wp_renamed (fun W => PX W ρ r b { x with val := x.got } l ∧ Wrote (Own ρ r) w W) ⟨H1.out, HW.out⟩ ?_
  clear H1 HW c1 c2 f1 f2
  rintro W ⟨hx, hw⟩
  have HX := hid hx
  have HW := hid hw
  have hlt := hx.lt
  have c1 := hx.facts.2.1.2.2.2.1
  have c2 := hx.facts.2.2.2.2.1.2.1
  have f1 := hx.facts.2.2.2.2.2.2 8
  have f2 := hx.facts.2.2.2.2.2.2 20
  have HC := hid (fun (y : Later W) => RdPut_any x.row 0 l.rb x.mr x.rs y.v (hx.ins.rd.below y.below))
  clear hx hw
  refine wp_region_later_tail 8 (by kernel_rfl) (by kernel_rfl) ?_
  simp only [List.take_succ_cons, List.take_zero, List.drop_succ_cons, List.drop_zero]
  repeat (go_big_quiet_step (fail))
  refine wpQuiet_nil ?_
  rintro _ ⟨y, rfl⟩
  have HY := hid (HX.out.below y.below)
  have HWY := hid (HW.out.trans (Wrote.of_below y.below _))
  go_wp2_with (go_at_call 138; go_must ((with_reducible refine (HC.out y).mono ?_); rintro e w3 ⟨rfl, hs, hw3⟩; have HS := hid hs; have HW3 := hid hw3; clear hs hw3))
  go_end0
  exact ⟨rfl, HY.out.reads HS.out HW3.out, HWY.out.trans (HY.out.ownR HW3.out)⟩
set_option maxHeartbeats 1000000 in
theorem pass_17 (h : PX w ρ r b x l) : PassC w ρ r b x l 17 := by
  have H := hid h
  have c2 := h.facts.2.2.1.1
  have f2 := h.facts.2.2.2.2.2.2 11
  have hw := (Wrote.refl (fun k => k = b) w).setCell (p := ⟨b, 11, none⟩) (fun _ => rfl) (.bool false)
  have H1 := hid (H.out.upd (x' := { x with alive := false }) (l' := l) (blk_setCell H.out.blk 11 _) hw rfl rfl rfl ⟨rfl, rfl⟩)
  have HW := hid (H.out.wr1 hw)
  clear h hw
  go_enter Try.func130, Try.ntmps130
  go_upto_region 10 with fail
  refine wp_renamed (fun W => PX W ρ r b { x with alive := false } l ∧ Wrote (Own ρ r) w W) ⟨H1.out, HW.out⟩ ?_
  clear H1 HW c2 f2
  rintro W ⟨hx, hw⟩
  have HX := hid hx
  have HW := hid hw
  have c1 := hx.facts.2.1.2.2.2.2.1
  have f1 := hx.facts.2.2.2.2.2.2 9
  have HC := hid (wLen_any l.wb x.mw x.ws x.asked W hx.ins.wr)
  clear hx hw
  by_cases hn : x.ws = []
  · have HP := hid (show passP x 17 = { x with alive := false } from show ({ x with alive := false, stamp := if x.ws = [] then x.stamp else x.made } : PT) = _ by rw [if_pos hn])
    have hz : x.ws.length = 0 := by rw [hn]; rfl
    rw [hz] at HC
    clear hn hz
    go_wp2_with (go_at_call 95; go_must ((with_reducible refine HC.out.mono ?_); rintro e w3 ⟨rfl, hb3⟩; have HB3 := hid hb3; clear hb3))
    go_end0
    exact ⟨rfl, by rw [HP.out]; exact HX.out.below HB3.out, HW.out.trans (Wrote.of_below HB3.out _)⟩
  · have HP := hid (show passP x 17 = { x with alive := false, stamp := x.made } from show ({ x with alive := false, stamp := if x.ws = [] then x.stamp else x.made } : PT) = _ by rw [if_neg hn])
    have hz : (0 : Int) < (x.ws.length : Int) := by have := List.length_pos_iff.2 hn; omega
    clear hn
    generalize x.ws.length = n at *
    go_upto_region 11 with (go_at_call 95; go_must ((with_reducible refine HC.out.mono ?_); rintro e w3 ⟨rfl, hb3⟩; have HB3 := hid hb3; clear hb3))
    have hy := HX.out.below HB3.out
    have HY := hid hy
    have HWY := hid (HW.out.trans (Wrote.of_below HB3.out _))
    have d1 := hy.facts.2.2.1.2.2.2.2.1
    have d2 := hy.facts.2.2.1.2.2.2.1
    have g1 := hy.facts.2.2.2.2.2.2 15
    have g2 := hy.facts.2.2.2.2.2.2 14
    clear hy
    go_wp2
    go_end0
    have hw := (Wrote.refl (fun k => k = b) w3).setCell (p := ⟨b, 14, none⟩) (fun _ => rfl) (.int .i64 x.made)
    exact ⟨rfl, by rw [HP.out]; exact HY.out.upd (x' := { x with alive := false, stamp := x.made }) (l' := l) (blk_setCell HY.out.blk 14 _) hw rfl rfl rfl ⟨rfl, rfl⟩, HWY.out.trans (HY.out.wr1 hw)⟩
theorem pass_any (h : PX w ρ r b x l) {p : Int} (hp : isPart p) : PassC w ρ r b x l p := by
  rcases hp with h1 | h1 | h1 | h1 | h1 | h1 | h1 | h1 | h1 | h1 | h1 | h1 | h1 | rfl | rfl | rfl | rfl
  case inr.inr.inr.inr.inr.inr.inr.inr.inr.inr.inr.inr.inr.inl => exact pass_14 h
  case inr.inr.inr.inr.inr.inr.inr.inr.inr.inr.inr.inr.inr.inr.inl => exact pass_15 h
  case inr.inr.inr.inr.inr.inr.inr.inr.inr.inr.inr.inr.inr.inr.inr.inl => exact pass_16 h
  case inr.inr.inr.inr.inr.inr.inr.inr.inr.inr.inr.inr.inr.inr.inr.inr => exact pass_17 h
  all_goals exact pass_no _ (by subst h1; simp) h
end

end Go.Proofs.Ytjfinnjmcnjciaa

namespace Go.Proofs.Ytjfinnjmcnjciaa
open Go.RowKit
attribute [local go_sem] Later.cell Later.frozen

/-- What a call that turns the attempt alone comes to. -/
def TpRet (w : World) (ρ : Nat → Nat) (r b : Nat) (v : Int × PT) (e : Ending) (w' : World) : Prop := e = .returned (.int .i64 v.1) ∧ ∃ ρ' l', Gr ρ ρ' w ∧ PX w' ρ' r b v.2 l' ∧ Wrote (Own ρ r) w w'
def lenAt (w : World) (b : Nat) : Nat := match w.cell? ⟨b, 17, none⟩ with | some (.slice _ n _) => n | _ => 0
theorem lenAt_eq {w : World} {b : Nat} {a : Option Addr} {n c : Nat} (h : w.cell? ⟨b, 17, none⟩ = some (.slice a n c)) : lenAt w b = n := by unfold lenAt; rw [h]
theorem goP_cons {y : PT} {p : Int} {ps : List Int} (h : y.parts = p :: ps) : goP y.parts y = if leftP y p = true then (0, y) else goP ps { passP y p with parts := ps, dn := 0 } := by
  rw [h, goP, ← h]
theorem goP_nil {y : PT} (h : y.parts = []) : goP y.parts y = (endP y, y) := by
  rw [h, goP, ← h]
theorem passP_parts (x : PT) (p : Int) : (passP x p).parts = x.parts := by
  unfold passP
  split
  · rfl
  · split
    · rfl
    · split
      · rfl
      · split <;> rfl
variable {w : World} {ρ : Nat → Nat} {r b : Nat} {x : PT} {l : PL}
/-- The first part is passed. -/
theorem PX.slide (h : PX w ρ r b x l) {p : Int} {ps : List Int} (hp : x.parts = p :: ps) {g off : Nat} (hpa : l.pa = some ⟨g, off, none⟩) :
    PX ((w.setCell ⟨b, 17, none⟩ (.slice (if l.pc = 1 then some ⟨g, off, none⟩ else some ⟨g, off + 1, none⟩) ps.length (l.pc - 1))).setCell ⟨b, 18, none⟩ (.int .i64 0)) ρ r b { x with parts := ps, dn := 0 } { l with pa := if l.pc = 1 then some ⟨g, off, none⟩ else some ⟨g, off + 1, none⟩, pc := l.pc - 1 } := by
  have hw := ((Wrote.refl (fun k => k = b) w).setCell (p := ⟨b, 17, none⟩) (fun _ => rfl) (.slice (if l.pc = 1 then some ⟨g, off, none⟩ else some ⟨g, off + 1, none⟩) ps.length (l.pc - 1))).setCell (p := ⟨b, 18, none⟩) (fun _ => rfl) (.int .i64 0)
  have hb1 := h.ins.b1
  refine ⟨blk_setCell (blk_setCell h.blk 17 _) 18 _, (h.ins.kept hw fun k h1 h2 e => by subst e; omega).same rfl rfl, ?_⟩
  have hr := h.parts.row
  have h7 := h.parts.b7
  rw [hp, hpa] at hr h7
  have hcap := h.parts.cap
  rw [hp] at hcap
  simp only [List.length_cons] at hcap
  have hfew := h.parts.few
  have hpp : PParts w ρ r { x with parts := ps, dn := 0 } { l with pa := if l.pc = 1 then some ⟨g, off, none⟩ else some ⟨g, off + 1, none⟩, pc := l.pc - 1 } := by
    by_cases h1 : l.pc = 1
    · have hps : ps = [] := List.eq_nil_of_length_eq_zero (by omega)
      subst hps
      refine ⟨⟨rfl, ?_⟩, fun a ha hl => absurd hl (Nat.lt_irrefl 0), Nat.zero_le _, by show l.pc - 1 ≤ 100; omega⟩
      rw [if_pos h1]
      exact .inr ⟨_, rfl, fun j hj => absurd hj (Nat.not_lt_zero j)⟩
    · rw [if_neg h1]
      refine ⟨⟨rfl, .inr ⟨_, rfl, fun j hj => ?_⟩⟩, fun a ha hl => ?_, by show ps.length ≤ l.pc - 1; omega, by show l.pc - 1 ≤ 100; omega⟩
      · obtain ⟨g', off', e, _, hc⟩ := hr.at (by simp)
        simp only [Option.some.injEq, Addr.mk.injEq, and_true] at e
        obtain ⟨rfl, rfl⟩ := e
        have hj : j < ps.length := hj
        have := hc (j + 1) (by simp; exact hj)
        rw [add_at, Nat.add_assoc, Nat.add_comm 1 j, this]
        simp
      · simp only [Option.some.injEq] at ha
        subst ha
        exact h7 ⟨g, off, none⟩ rfl (by simp)
  exact hpp.kept hw fun k hk e => by subst e; omega
structure GoI (w : World) (ρ : Nat → Nat) (r b : Nat) (x : PT) (l : PL) (W : World) (y : PT) (m : PL) : Prop where
  px : PX W ρ r b y m
  go : goP y.parts y = goP x.parts x
  all : ∀ p ∈ y.parts, isPart p
  wrote : Wrote (Own ρ r) w W

set_option maxHeartbeats 4000000 in
theorem goOn_any (h : PX w ρ r b x l) (ha : ∀ p ∈ x.parts, isPart p) : Calls Try.prog 88 #[.pointer (some ⟨b, 0, none⟩)] w (TpRet w ρ r b (goOnP x)) := by
  have H0 := hid (show GoI w ρ r b x l w x l from ⟨h, rfl, ha, Wrote.refl _ _⟩)
  clear h ha
  unfold goOnP
  go_enter Try.func88, Try.ntmps88
  go_wp2_with fail
  go_loopw [2] (fun v W => v = .int .i64 0 ∧ ∃ y m, GoI w ρ r b x l W y m) (fun _ W => lenAt W b)
  case atStart => exact ⟨rfl, _, _, H0.out⟩
  case round =>
    clear H0
    obtain ⟨rfl, y, m, hg⟩ := hrel
    have HG := hid hg
    have c17 := hg.px.facts.2.2.2.1.1
    have f17 := hg.px.facts.2.2.2.2.2.2 17
    have HM := hid (lenAt_eq c17)
    clear hg
    cases hps : y.parts with
    | nil =>
      rw [hps] at c17
      have HE := hid (HG.out.go.symm.trans (goP_nil hps))
      have c11 := HG.out.px.facts.2.2.1.1
      have f11 := HG.out.px.facts.2.2.2.2.2.2 11
      have c12 := HG.out.px.facts.2.2.1.2.1
      have f12 := HG.out.px.facts.2.2.2.2.2.2 12
      clear hps
      cases hal : y.alive with
      | true =>
        rw [hal] at c11
        have HL := hid (show endP y = 1 from if_neg (fun h => by rw [hal] at h; cases h.1))
        clear hal
        go_wp2_with fail
        go_ret
        rw [HE.out, HL.out]
        exact ⟨rfl, ρ, m, Gr.refl _ _, HG.out.px, HG.out.wrote⟩
      | false =>
        rw [hal] at c11
        cases hsu : y.sure with
        | true =>
          rw [hsu] at c12
          have HL := hid (show endP y = 1 from if_neg (fun h => by rw [hsu] at h; cases h.2))
          clear hal hsu
          go_wp2_with fail
          go_ret
          rw [HE.out, HL.out]
          exact ⟨rfl, ρ, m, Gr.refl _ _, HG.out.px, HG.out.wrote⟩
        | false =>
          rw [hsu] at c12
          have HL := hid (show endP y = 2 from if_pos ⟨hal, hsu⟩)
          clear hal hsu
          go_wp2_with fail
          go_ret
          rw [HE.out, HL.out]
          exact ⟨rfl, ρ, m, Gr.refl _ _, HG.out.px, HG.out.wrote⟩
    | cons p ps =>
      rw [hps] at c17
      obtain ⟨g, off, hpa, hgl, hc⟩ := HG.out.px.parts.row.at (by rw [hps]; simp)
      have cp := hc 0 (by rw [hps]; simp)
      rw [hps] at cp
      rw [hpa] at c17
      have fp := World.frozen?
      clear fp hc
      have HP := hid (HG.out.all p (by rw [hps]; exact List.mem_cons_self))
      have HPA := hid hpa
      have HPS := hid hps
      have HE := hid (HG.out.go.symm.trans (goP_cons hps))
      have HLC := hid (left_any HG.out.px HP.out)
      have n1 : (0 : Int) < (((p :: ps).length : Nat) : Int) := by simp only [List.length_cons]; omega
      clear hps hpa
      unfold LeftC at HLC
      have cp : wr.cell? ⟨g, off, none⟩ = some (.int .i64 p) := cp
      cases hl : leftP y p with
      | true =>
        rw [hl] at HLC
        rw [hl, if_pos rfl] at HE
        go_wp2_with (go_at_call 129; go_must ((with_reducible refine HLC.out.mono ?_); rintro e w3 ⟨rfl, hb3⟩; have HB3 := hid hb3; clear hb3))
        go_ret
        rw [HE.out]
        exact ⟨rfl, ρ, m, Gr.refl _ _, HG.out.px.below HB3.out, HG.out.wrote.trans (Wrote.of_below HB3.out _)⟩
      | false =>
        rw [hl] at HLC
        rw [hl, if_neg (show ¬ (false = true) from Bool.false_ne_true)] at HE
        go_upto_region 5 with (go_at_call 129; go_must ((with_reducible refine HLC.out.mono ?_); rintro e w3 ⟨rfl, hb3⟩; have HB3 := hid hb3; clear hb3))
        have HX3 := hid (HG.out.px.below HB3.out)
        have HW3 := hid (HG.out.wrote.trans (Wrote.of_below HB3.out _))
        have HPC := hid (pass_any HX3.out HP.out)
        clear HLC HB3 c17 f17 cp
        unfold PassC at HPC
        go_upto_region 6 with (go_at_call 130; go_must ((with_reducible refine HPC.out.mono ?_); rintro e w4 ⟨rfl, hx4, hw4⟩; have HX4 := hid hx4; have HW4 := hid (HW3.out.trans hw4); clear hx4 hw4))
        have hpp : (passP y p).parts = p :: ps := (passP_parts y p).trans HPS.out
        have HSL := hid (HX4.out.slide hpp HPA.out)
        have c17 := HX4.out.facts.2.2.2.1.1
        have f17 := HX4.out.facts.2.2.2.2.2.2 17
        have c18 := HX4.out.facts.2.2.2.1.2
        have f18 := HX4.out.facts.2.2.2.2.2.2 18
        have n2 : ((1 : Int) ≤ (((p :: ps).length : Nat) : Int)) := by simp only [List.length_cons]; omega
        have n3 : ((((p :: ps).length : Nat) : Int)) ≤ (m.pc : Int) := by have := HX4.out.parts.cap; rw [hpp] at this; omega
        rw [hpp, HPA.out] at c17
        go_wp2
        go_roundw
        case rel =>
          refine ⟨by go_num, { passP y p with parts := ps, dn := 0 }, { m with pa := if m.pc = 1 then some ⟨g, off, none⟩ else some ⟨g, off + 1, none⟩, pc := m.pc - 1 }, ?_, HE.out.symm, fun q hq => HG.out.all q (by rw [HPS.out]; exact List.mem_cons_of_mem _ hq), HW4.out.trans (HX4.out.wr1 (((Wrote.refl (fun k => k = b) w4).setCell (fun _ => rfl) _).setCell (fun _ => rfl) _))⟩
          exact HSL.out
        case measure =>
          have e1 := lenAt_eq HSL.out.facts.2.2.2.1.1
          have e2 := HM.out
          rw [HPS.out] at e2
          rw [e1, e2]
          exact Nat.lt_succ_self _

end Go.Proofs.Ytjfinnjmcnjciaa

namespace Go.Proofs.Ytjfinnjmcnjciaa
open Go.RowKit
attribute [local go_sem] Later.cell Later.frozen

variable {w : World} {ρ : Nat → Nat} {r b : Nat} {x : PT} {l : PL}
theorem TpRet.from {ρ1 : Nat → Nat} {w1 w' : World} {v : Int × PT} {e : Ending} (h : TpRet w1 ρ1 r b v e w') (hg : Gr ρ ρ1 w) (hw : Wrote (Own ρ r) w w1) : TpRet w ρ r b v e w' := by
  obtain ⟨h1, ρ', l', g, p, k⟩ := h
  exact ⟨h1, ρ', l', hg.trans g hw.size, p, hw.then k fun i hi ho => by unfold Own at ho ⊢; rw [hg i hi] at ho; exact ho⟩
/-- A list of parts that has just been laid. -/
theorem parts_lit (w : World) (ρ : Nat → Nat) (r : Nat) (x : PT) (l : PL) (ps : List Int) (cs : Array Value) (h : cs = (ps.map fun (n : Int) => Value.int .i64 n).toArray) (n : Nat) (hn : n = ps.length) (h100 : n ≤ 100) :
    PParts (w.alloc (.cells cs 123)) (newR ρ w.heap.size (r + 7)) r { x with parts := ps, dn := 0 } { l with pa := some ⟨w.heap.size, 0, none⟩, pc := n } := by
  subst h hn
  refine ⟨⟨rfl, .inr ⟨_, rfl, fun j hj => ?_⟩⟩, fun a ha _ => ?_, Nat.le_refl _, h100⟩
  · have hj : j < ps.length := hj
    rw [add_at, cell_of_blk (heap_alloc_new _ _)]
    simp [hj]
  · simp only [Option.some.injEq] at ha
    subst ha
    exact ⟨newR_new (Nat.le_refl _), by show w.heap.size < (w.alloc _).heap.size; rw [size_alloc1]; omega⟩
set_option maxHeartbeats 1000000 in
theorem tpask_any (ps : List Int) (a : Option Addr) (c : Nat) (h : PX w ρ r b x l) (hp : PParts w ρ r { x with parts := ps, dn := 0 } { l with pa := a, pc := c }) (ha : ∀ p ∈ ps, isPart p) :
    Calls Try.prog 85 #[.pointer (some ⟨b, 0, none⟩), .slice a ps.length c] w (TpRet w ρ r b (askP x ps)) := by
  have H := hid h
  have c17 := h.facts.2.2.2.1.1
  have f17 := h.facts.2.2.2.2.2.2 17
  have c18 := h.facts.2.2.2.1.2
  have f18 := h.facts.2.2.2.2.2.2 18
  have hb1 := h.ins.b1
  have hw := hid (((Wrote.refl (fun k => k = b) w).setCell (p := ⟨b, 17, none⟩) (fun _ => rfl) (.slice a ps.length c)).setCell (p := ⟨b, 18, none⟩) (fun _ => rfl) (.int .i64 0))
  have HX := hid (show PX ((w.setCell ⟨b, 17, none⟩ (.slice a ps.length c)).setCell ⟨b, 18, none⟩ (.int .i64 0)) ρ r b { x with parts := ps, dn := 0 } { l with pa := a, pc := c } from
    ⟨blk_setCell (blk_setCell h.blk 17 _) 18 _, (h.ins.kept hw.out fun k h1 h2 e => by subst e; omega).same rfl rfl, hp.kept hw.out fun k hk e => by subst e; omega⟩)
  have HG := hid (goOn_any HX.out ha)
  have HW := hid (h.wr1 hw.out)
  clear h hp ha hw hb1 HX
  go_enter Try.func85, Try.ntmps85
  go_wp2_with (go_at_call 88; go_must ((with_reducible refine HG.out.mono ?_); rintro e w1 ⟨rfl, hr⟩; have HR := hid hr; clear hr))
  go_ret
  exact TpRet.from (w1 := (w.setCell ⟨b, 17, none⟩ (.slice a ps.length c)).setCell ⟨b, 18, none⟩ (.int .i64 0)) ⟨rfl, HR.out⟩ (Gr.refl _ _) HW.out
/-- Parts that have just been laid are asked. -/
theorem askLit (ps : List Int) (cs : Array Value) (hcs : cs = (ps.map fun (n : Int) => Value.int .i64 n).toArray) (n : Nat) (hn : n = ps.length) (h100 : n ≤ 100) (h : PX w ρ r b x l) (ha : ∀ p ∈ ps, isPart p) :
    Calls Try.prog 85 #[.pointer (some ⟨b, 0, none⟩), .slice (some ⟨w.heap.size, 0, none⟩) n n] (w.alloc (.cells cs 123)) (TpRet w ρ r b (askP x ps)) := by
  have hx : PX (w.alloc (.cells cs 123)) (newR ρ w.heap.size (r + 7)) r b x l := (h.gr (newR_gr ρ w (r + 7))).below (bnew (bid w) _)
  have hp := parts_lit w ρ r x l ps cs hcs n hn h100
  rw [hn] at hp ⊢
  exact (tpask_any ps _ _ hx hp ha).mono fun e w' hh => hh.from (newR_gr _ _ _) (Wrote.of_below (bnew (bid w) _) _)
set_option maxHeartbeats 1000000 in
theorem tpabort_any (c : Int) (h : PX w ρ r b x l) : Calls Try.prog 87 #[.pointer (some ⟨b, 0, none⟩), .int .i64 c] w (TpRet w ρ r b (abortP x c)) := by
  have c11 := h.facts.2.2.1.1
  have f11 := h.facts.2.2.2.2.2.2 11
  have c13 := h.facts.2.2.1.2.2.1
  have f13 := h.facts.2.2.2.2.2.2 13
  have c15 := h.facts.2.2.1.2.2.2.2.1
  have f15 := h.facts.2.2.2.2.2.2 15
  have hw := (((Wrote.refl (fun k => k = b) w).setCell (p := ⟨b, 11, none⟩) (fun _ => rfl) (.bool false)).setCell (p := ⟨b, 13, none⟩) (fun _ => rfl) (.int .i64 c)).setCell (p := ⟨b, 15, none⟩) (fun _ => rfl) (.int .i64 0)
  have HX := hid (h.upd (x' := { x with alive := false, cause := c, made := 0 }) (l' := l) (blk_setCell (blk_setCell (blk_setCell h.blk 11 (.bool false)) 13 (.int .i64 c)) 15 (.int .i64 0)) hw rfl rfl rfl ⟨rfl, rfl⟩)
  have HW := hid (h.wr1 hw)
  clear h hw
  go_enter Try.func87, Try.ntmps87
  go_upto_region 2 with fail
  refine wp_renamed (fun W => PX W ρ r b { x with alive := false, cause := c, made := 0 } l ∧ Wrote (Own ρ r) w W) ⟨HX.out, HW.out⟩ ?_
  clear HX HW c11 c13 c15 f11 f13 f15
  rintro W ⟨hx, hw⟩
  have HW := hid hw
  have HA := hid (askLit [12, 13] #[.int .i64 12, .int .i64 13] rfl 2 rfl (by decide) hx (by intro p hp; simp at hp; rcases hp with rfl | rfl <;> simp [isPart]))
  clear hx hw
  go_wp2_with (go_at_call 85; go_must ((with_reducible refine HA.out.mono ?_); rintro e w1 ⟨rfl, hr⟩; have HR := hid hr; clear hr))
  go_ret
  exact TpRet.from (w1 := W) ⟨rfl, HR.out⟩ (Gr.refl _ _) HW.out

/-! ### ready; Kill -/
def readyB (x : PT) : Bool := x.alive && x.parts.isEmpty
theorem ready_yes {x : PT} (h : readyB x = true) : x.alive = true ∧ x.parts = [] := by
  unfold readyB at h; simp at h; exact h
theorem ready_no {x : PT} (h : readyB x = false) : ¬ (x.alive = true ∧ x.parts = []) := by
  intro hh; unfold readyB at h; rw [hh.1, hh.2] at h; cases h
set_option maxHeartbeats 1000000 in
theorem tpready_any (h : PX w ρ r b x l) : Calls Try.prog 89 #[.pointer (some ⟨b, 0, none⟩)] w fun e w' => e = .returned (.bool (readyB x)) ∧ w = w' := by
  have c11 := h.facts.2.2.1.1
  have f11 := h.facts.2.2.2.2.2.2 11
  have c17 := h.facts.2.2.2.1.1
  have f17 := h.facts.2.2.2.2.2.2 17
  clear h
  cases ha : x.alive with
  | false =>
    rw [ha] at c11
    have HE := hid (show readyB x = false from by unfold readyB; rw [ha]; rfl)
    clear ha
    go_enter Try.func89, Try.ntmps89
    go_wp2
    go_ret
    exact ⟨by rw [HE.out]; rfl, rfl⟩
  | true =>
    rw [ha] at c11
    have HE := hid (show readyB x = ((x.parts.length : Int) == 0) from by unfold readyB; rw [ha, eq_dec]; cases x.parts <;> rfl)
    clear ha
    generalize x.parts.length = n at *
    go_enter Try.func89, Try.ntmps89
    go_wp2
    go_ret
    exact ⟨by rw [HE.out]; rfl, rfl⟩
end Go.Proofs.Ytjfinnjmcnjciaa

namespace Go.Proofs.Ytjfinnjmcnjciaa
open Go.RowKit
attribute [local go_sem] Later.cell Later.frozen

variable {w : World} {ρ : Nat → Nat} {r b : Nat} {x : PT} {l : PL}
/-- Without lists. -/
theorem PX.nolists (h : PX w ρ r b x l) : PX (((w.setCell ⟨b, 10, none⟩ (.slice none 0 0)).setCell ⟨b, 24, none⟩ (.slice none 0 0)).setCell ⟨b, 25, none⟩ (.slice none 0 0)) ρ r b { x with wt := [], rows := [], old := [] } { l with vt := .slice none 0 0, va := .slice none 0 0, vo := .slice none 0 0 } := by
  have hw := (((Wrote.refl (fun k => k = b) w).setCell (p := ⟨b, 10, none⟩) (fun _ => rfl) (.slice none 0 0)).setCell (p := ⟨b, 24, none⟩) (fun _ => rfl) (.slice none 0 0)).setCell (p := ⟨b, 25, none⟩) (fun _ => rfl) (.slice none 0 0)
  have hb1 := h.ins.b1
  have i := h.ins.kept hw fun k h1 h2 e => by subst e; omega
  exact ⟨blk_setCell (blk_setCell (blk_setCell h.blk 10 _) 24 _) 25 _, ⟨i.rd, i.wr, WL.nil _ _, NL.nil _ _, JL.nil _ _, i.b1, i.b2, i.b3, (fun k hk => by simp [Value.ownBlock] at hk), (fun k hk => by simp [Value.ownBlock] at hk), (fun k hk => by simp [Value.ownBlock] at hk), Nat.zero_le _, Nat.zero_le _, Nat.zero_le _⟩, (h.parts.kept hw fun k hk e => by subst e; omega).same rfl rfl rfl⟩
set_option maxHeartbeats 2000000 in
theorem tpBegin_any (h : PX w ρ r b x l) : Calls Try.prog 47 #[.pointer (some ⟨b, 0, none⟩)] w (TpRet w ρ r b (pBegin x)) := by
  have H := hid h
  have c8 := h.facts.2.1.2.2.2.1
  have f8 := h.facts.2.2.2.2.2.2 8
  have c11 := h.facts.2.2.1.1
  have f11 := h.facts.2.2.2.2.2.2 11
  have c17 := h.facts.2.2.2.1.1
  have f17 := h.facts.2.2.2.2.2.2 17
  clear h
  cases ha : x.alive with
  | true =>
    rw [ha] at c11
    have HE := hid (show pBegin x = (2, x) from if_pos (.inl ha))
    clear ha
    go_enter Try.func47, Try.ntmps47
    go_wp2
    go_ret
    rw [HE.out]
    exact ⟨rfl, ρ, l, Gr.refl _ _, H.out, Wrote.refl _ _⟩
  | false =>
    rw [ha] at c11
    by_cases hp : x.parts = []
    · have HE := hid (show pBegin x = _ from if_neg (fun h => h.elim (fun h => by rw [ha] at h; cases h) (fun h => h hp)))
      rw [hp] at c17
      have HR := hid (RdClear_any l.rb x.mr x.rs w H.out.ins.rd)
      clear ha hp
      go_enter Try.func47, Try.ntmps47
      go_upto_region 4 with (go_at_call 83; go_must ((with_reducible refine HR.out.mono ?_); rintro e w1 ⟨rfl, hs, hw⟩; have HX := hid (H.out.reads hs hw); have HW := hid (H.out.ownR hw); clear hs hw))
      have c9 := HX.out.facts.2.1.2.2.2.2.1
      have f9 := HX.out.facts.2.2.2.2.2.2 9
      have HC := hid (wClear_any l.wb x.mw x.ws x.asked w1 HX.out.ins.wr)
      clear HR c8 f8 c11 f11 c17 f17
      go_upto_region 5 with (go_at_call 84; go_must ((with_reducible refine HC.out.mono ?_); rintro e w2 ⟨rfl, hs, hw⟩; have HX2 := hid (HX.out.writes hs hw); have HW2 := hid (HW.out.trans (HX.out.ownW hw)); clear hs hw))
      have c10 := HX2.out.facts.2.1.2.2.2.2.2
      have f10 := HX2.out.facts.2.2.2.2.2.2 10
      have c24 := HX2.out.facts.2.2.2.2.1.2.2.2.2.2.1
      have f24 := HX2.out.facts.2.2.2.2.2.2 24
      have c25 := HX2.out.facts.2.2.2.2.1.2.2.2.2.2.2.1
      have f25 := HX2.out.facts.2.2.2.2.2.2 25
      have HX3 := hid HX2.out.nolists
      have hw3 := (((Wrote.refl (fun k => k = b) w2).setCell (p := ⟨b, 10, none⟩) (fun _ => rfl) (.slice none 0 0)).setCell (p := ⟨b, 24, none⟩) (fun _ => rfl) (.slice none 0 0)).setCell (p := ⟨b, 25, none⟩) (fun _ => rfl) (.slice none 0 0)
      have HW3 := hid (HW2.out.trans (HX2.out.wr1 hw3))
      clear HC c9 f9 hw3
      go_upto_region 6 with fail
      refine wp_renamed (fun W => PX W ρ r b { x with rs := [], ws := [], asked := 0, wt := [], rows := [], old := [] } { l with vt := .slice none 0 0, va := .slice none 0 0, vo := .slice none 0 0 } ∧ Wrote (Own ρ r) w W) ⟨HX3.out, HW3.out⟩ ?_
      clear HX3 HW3 HX2 HW2 HX HW c10 f10 c24 f24 c25 f25
      rintro W ⟨hx, hw⟩
      have HW := hid hw
      have c11 := hx.facts.2.2.1.1
      have f11 := hx.facts.2.2.2.2.2.2 11
      have c12 := hx.facts.2.2.1.2.1
      have f12 := hx.facts.2.2.2.2.2.2 12
      have hw2 := ((Wrote.refl (fun k => k = b) W).setCell (p := ⟨b, 11, none⟩) (fun _ => rfl) (.bool true)).setCell (p := ⟨b, 12, none⟩) (fun _ => rfl) (.bool false)
      have HX2 := hid (hx.upd (x' := { x with rs := [], ws := [], asked := 0, wt := [], rows := [], old := [], alive := true, sure := false }) (l' := { l with vt := .slice none 0 0, va := .slice none 0 0, vo := .slice none 0 0 }) (blk_setCell (blk_setCell hx.blk 11 (.bool true)) 12 (.bool false)) hw2 rfl rfl rfl ⟨rfl, rfl⟩)
      have HW2 := hid (hw.trans (hx.wr1 hw2))
      clear hx hw hw2
      go_upto_region 7 with fail
      refine wp_renamed (fun W => PX W ρ r b { x with rs := [], ws := [], asked := 0, wt := [], rows := [], old := [], alive := true, sure := false } { l with vt := .slice none 0 0, va := .slice none 0 0, vo := .slice none 0 0 } ∧ Wrote (Own ρ r) w W) ⟨HX2.out, HW2.out⟩ ?_
      clear HX2 HW2 HW c11 f11 c12 f12
      rintro W3 ⟨hx, hw⟩
      have c13 := hx.facts.2.2.1.2.2.1
      have f13 := hx.facts.2.2.2.2.2.2 13
      have c15 := hx.facts.2.2.1.2.2.2.2.1
      have f15 := hx.facts.2.2.2.2.2.2 15
      have c16 := hx.facts.2.2.1.2.2.2.2.2
      have f16 := hx.facts.2.2.2.2.2.2 16
      have hw2 := (((Wrote.refl (fun k => k = b) W3).setCell (p := ⟨b, 13, none⟩) (fun _ => rfl) (.int .i64 0)).setCell (p := ⟨b, 15, none⟩) (fun _ => rfl) (.int .i64 0)).setCell (p := ⟨b, 16, none⟩) (fun _ => rfl) (.int .i64 0)
      have HX2 := hid (hx.upd (x' := { x with rs := [], ws := [], asked := 0, wt := [], rows := [], old := [], alive := true, sure := false, cause := 0, made := 0, val := 0 }) (l' := { l with vt := .slice none 0 0, va := .slice none 0 0, vo := .slice none 0 0 }) (blk_setCell (blk_setCell (blk_setCell hx.blk 13 (.int .i64 0)) 15 (.int .i64 0)) 16 (.int .i64 0)) hw2 rfl rfl rfl ⟨rfl, rfl⟩)
      have HW2 := hid (hw.trans (hx.wr1 hw2))
      clear hx hw hw2
      go_upto_region 8 with fail
      refine wp_renamed (fun W => PX W ρ r b { x with rs := [], ws := [], asked := 0, wt := [], rows := [], old := [], alive := true, sure := false, cause := 0, made := 0, val := 0 } { l with vt := .slice none 0 0, va := .slice none 0 0, vo := .slice none 0 0 } ∧ Wrote (Own ρ r) w W) ⟨HX2.out, HW2.out⟩ ?_
      clear HX2 HW2 c13 f13 c15 f15 c16 f16
      rintro W4 ⟨hx, hw⟩
      have HW := hid hw
      have HA := hid (askLit [0, 15] #[.int .i64 0, .int .i64 15] rfl 2 rfl (by decide) hx (by intro p hp; simp at hp; rcases hp with rfl | rfl <;> simp [isPart]))
      clear hx hw
      go_wp2_with (go_at_call 85; go_must ((with_reducible refine HA.out.mono ?_); rintro e w5 ⟨rfl, hr⟩; have HR := hid hr; clear hr))
      go_ret
      rw [HE.out]
      exact TpRet.from (w1 := W4) ⟨rfl, HR.out⟩ (Gr.refl _ _) HW.out
    · have HE := hid (show pBegin x = (2, x) from if_pos (.inr hp))
      have hn : (0 : Int) < (x.parts.length : Int) := by have := List.length_pos_iff.2 hp; omega
      generalize x.parts.length = n at *
      clear ha hp
      go_enter Try.func47, Try.ntmps47
      go_wp2
      go_ret
      rw [HE.out]
      exact ⟨rfl, ρ, l, Gr.refl _ _, H.out, Wrote.refl _ _⟩

/-! ### Watch -/
/-- One more place is watched. -/
theorem PX.watched (h : PX w ρ r b x l) (hn : x.wt.length < 100) {w1 w2 : World} {v : Value} {p : Wd} (hb : Below w.heap.size w w1) (hv : WL w2 0 v (x.wt ++ [p])) (hw : Wrote (fun k => l.vt.ownBlock = some k) w1 w2) (ho : ∀ g, v.ownBlock = some g → l.vt.ownBlock = some g ∨ w1.heap.size ≤ g) :
    ∃ ρ', Gr ρ ρ' w ∧ PX (w2.setCell ⟨b, 10, none⟩ v) ρ' r b { x with wt := x.wt ++ [p] } { l with vt := v } ∧ Wrote (Own ρ r) w (w2.setCell ⟨b, 10, none⟩ v) := by
  have h1 : PX w1 ρ r b x l := h.below hb
  have hg := newR_gr ρ w1 (r + 4)
  have h2 : PX w1 (newR ρ w1.heap.size (r + 4)) r b x l := h1.gr hg
  have hw3 := (Wrote.refl (fun k => k = b) w2).setCell (p := ⟨b, 10, none⟩) (fun _ => rfl) v
  have hb1 := h2.ins.b1
  have i := (h2.ins.kept (S := fun k => l.vt.ownBlock = some k ∧ False) (w' := w1) (Wrote.refl _ _) (fun _ _ _ h => h.2))
  have ne : ∀ k, l.vt.ownBlock = some k → newR ρ w1.heap.size (r + 4) k = r + 4 := h2.ins.b4
  have hblk2 : w2.heap[b]? = some (.cells (ptC x l) 121 (0, 0)) := (hw.block _ h2.lt (fun e => by have := ne _ e; omega)).trans h2.blk
  have hwv : WL (w2.setCell ⟨b, 10, none⟩ v) 0 v (x.wt ++ [p]) := hv.kept hw3 fun k hk e => by
    subst e
    rcases ho _ hk with hk | hk
    · have := ne _ hk; omega
    · have := h2.lt; omega
  have W12 : Wrote (fun k => l.vt.ownBlock = some k ∨ k = b) w1 (w2.setCell ⟨b, 10, none⟩ v) := (hw.mono fun k _ e => .inl e).trans (hw3.mono fun k _ e => .inr e)
  refine ⟨newR ρ w1.heap.size (r + 4), fun k hk => hg k (Nat.lt_of_lt_of_le hk hb.size), ⟨blk_setCell hblk2 10 v, ⟨?_, ?_, hwv, ?_, ?_, i.b1, i.b2, i.b3, ?_, i.b5, i.b6, by show (x.wt ++ [p]).length ≤ 100; rw [List.length_append, List.length_singleton]; omega, i.oldl, i.rowl⟩, ?_⟩, ?_⟩
  · exact i.rd.keep (W12.block _ i.rd.lt (fun e => by have h2 := i.b2; rcases e with e | e; · have := ne _ e; omega
                                                      · rw [e] at h2; omega))
  · exact i.wr.keep (W12.block _ i.wr.lt (fun e => by have h2 := i.b3; rcases e with e | e; · have := ne _ e; omega
                                                      · rw [e] at h2; omega))
  · exact i.rows.kept W12 fun k hk e => by have h2 := i.b5 k hk; rcases e with e | e; · have := ne _ e; omega
                                           · subst e; omega
  · exact i.old.kept W12 fun k hk e => by have h2 := i.b6 k hk; rcases e with e | e; · have := ne _ e; omega
                                          · subst e; omega
  · intro k hk
    rcases ho k hk with hk | hk
    · exact ne _ hk
    · exact newR_new hk
  · exact (h2.parts.kept W12 fun k hk e => by rcases e with e | e; · have := ne _ e; omega
                                              · subst e; omega).same rfl rfl rfl
  · refine (Wrote.of_below hb _).trans (W12.mono fun k hk e => ?_)
    rcases e with e | e
    · have := h1.ins.b4 k e
      exact ⟨by omega, by omega⟩
    · subst e; exact h.own

/-- What a call that tells nothing comes to. -/
def TpRet0 (w : World) (ρ : Nat → Nat) (r b : Nat) (y : PT) (e : Ending) (w' : World) : Prop := e = .returned (.tuple #[]) ∧ ∃ ρ' l', Gr ρ ρ' w ∧ PX w' ρ' r b y l' ∧ Wrote (Own ρ r) w w'
set_option maxHeartbeats 2000000 in
theorem tpWatch_any (a v : Int) (h : PX w ρ r b x l) (hn : x.wt.length < 100) :
    Calls Try.prog 49 #[.pointer (some ⟨b, 0, none⟩), .int .i64 a, .int .i64 v] w (TpRet0 w ρ r b (pWatch x a v)) := by
  have H := hid h
  have c11 := h.facts.2.2.1.1
  have f11 := h.facts.2.2.2.2.2.2 11
  have c10 := h.facts.2.1.2.2.2.2.2
  have f10 := h.facts.2.2.2.2.2.2 10
  have hlt := h.lt
  cases ha : x.alive with
  | false =>
    rw [ha] at c11
    have HE := hid (show pWatch x a v = x from if_neg (by rw [ha]; exact Bool.false_ne_true))
    clear ha h
    go_enter Try.func49, Try.ntmps49
    go_wp2
    go_end0
    rw [HE.out]
    exact ⟨rfl, ρ, l, Gr.refl _ _, H.out, Wrote.refl _ _⟩
  | true =>
    rw [ha] at c11
    have HE := hid (show pWatch x a v = { x with wt := x.wt ++ [(a, v)] } from if_pos ha)
    have HWL := hid h.ins.wt
    have HN := hid hn
    obtain ⟨av, nv, hv, _⟩ := h.ins.wt.form
    have HV := hid hv
    have HNE := hid (show ∀ k, l.vt.ownBlock = some k → k ≠ b from fun k hk e => by have h1 := h.ins.b1; have h2 := h.ins.b4 k hk; rw [e] at h2; omega)
    clear ha h hn
    generalize hvt : l.vt = vt at *
    have HVT := hid hvt
    clear hvt
    subst hv
    go_enter Try.func49, Try.ntmps49
    go_wp2_with (at_builtin; go_must (refine wpList_append_wl rfl (.tmp 18) (.tmp 22) rfl rfl HWL.out rfl (p := (a, v)) rfl (by have := HN.out; omega) (Nat.zero_le _) ?_); intro v' w' hl' hw' hg'; obtain ⟨ra, rl, rc, rfl⟩ : ∃ ra rl rc, v' = .slice ra rl rc := (by (obtain ⟨a9, c9, h9, _⟩ := hl'.form; exact ⟨_, _, _, h9⟩)); have HL' := hid hl'; have HW' := hid hw'; have HG' := hid hg'; have HBK := hid (show w'.heap[b]? = some (.cells (ptC x l) 121 (0, 0)) from (hw'.block b hlt (fun e => HNE.out _ e rfl)).trans H.out.blk); have m1 : w'.cell? ⟨b, 10, none⟩ = some l.vt := (cell_of_blk HBK.out 10); have m2 := frozen_of_blk HBK.out 10; clear hl' hw' hg' c10 f10)
    go_end0
    rw [HE.out]
    obtain ⟨ρ', h1, h2, h3⟩ := H.out.watched (p := (a, v)) HN.out (bid w) HL'.out (by rw [HVT.out]; exact HW'.out) (by rw [HVT.out]; exact HG'.out)
    exact ⟨rfl, ρ', _, h1, h2, h3⟩

end Go.Proofs.Ytjfinnjmcnjciaa
