/-
  Small facts on worlds, rows of integers and the memory of package mem, over no program of its own: 'Wrote S w w'': outside the blocks S (and what is new) nothing has turned; a slice of integers that reads as a list; a block of several cells, read and written cell by cell.
-/
import Derived.Test.YtjfinnjmcnjciaaRows
import Derived.WalkKit
import Derived.WalkSpells
import Derived.WalkLawsBesides
import Derived.OneCell
import Derived.Laws.AppendOwnNone
namespace Go.Proofs.Ytjfinnjmcnjciaa
open Go.RowKit

/-- A fact kept from the walk. -/
theorem hid {p : Prop} (h : p) : Hid p := h

/-- An operation whose guard says yes is as one without a guard. -/
theorem wpList_yes {P : Program} {ops : Array Oper} {Q : Exit → Act → World → Prop} {a : Act} {w : World} {rest : List Oper} {o : Oper}
    (hw : Region.wanted o (yielded ops a.tmps) = true) (h : wpList P ops Q ({ o with guard := Option.none } :: rest) a w) : wpList P ops Q (o :: rest) a w := by
  simp only [wpList, hw, if_true]
  simp only [wpList, Region.wanted, if_true] at h
  exact h

/-- Outside S, and of what was there, no block has turned. -/
structure Wrote (S : Nat → Prop) (w w' : World) : Prop where
  os : w'.os = w.os
  tape : w'.tape = w.tape
  output : w'.output = w.output
  size : w.heap.size ≤ w'.heap.size
  block : ∀ k, k < w.heap.size → ¬ S k → w'.heap[k]? = w.heap[k]?

theorem Wrote.refl (S : Nat → Prop) (w : World) : Wrote S w w := ⟨rfl, rfl, rfl, Nat.le_refl _, fun _ _ _ => rfl⟩
theorem Wrote.mono {S S' : Nat → Prop} {w w' : World} (h : Wrote S w w') (hs : ∀ k, k < w.heap.size → S k → S' k) : Wrote S' w w' :=
  ⟨h.os, h.tape, h.output, h.size, fun k hk hn => h.block k hk fun hS => hn (hs k hk hS)⟩
theorem Wrote.then {S S' : Nat → Prop} {a b c : World} (h : Wrote S a b) (k : Wrote S' b c) (hs : ∀ i, i < a.heap.size → S' i → S i) : Wrote S a c :=
  ⟨k.os.trans h.os, k.tape.trans h.tape, k.output.trans h.output, Nat.le_trans h.size k.size,
    fun i hi hn => (k.block i (Nat.lt_of_lt_of_le hi h.size) fun hS => hn (hs i hi hS)).trans (h.block i hi hn)⟩
theorem Wrote.trans {S : Nat → Prop} {a b c : World} (h : Wrote S a b) (k : Wrote S b c) : Wrote S a c := h.then k fun _ _ h => h
theorem Wrote.drew {S : Nat → Prop} {a w : World} (h : Wrote S a w) : Wrote S a w.drew := ⟨h.os, h.tape, h.output, h.size, h.block⟩
theorem Wrote.drewN {S : Nat → Prop} {a w : World} (h : Wrote S a w) (n : Nat) : Wrote S a (w.drewN n) := ⟨h.os, h.tape, h.output, h.size, h.block⟩
theorem Wrote.alloc {S : Nat → Prop} {a w : World} (h : Wrote S a w) (o : Obj) : Wrote S a (w.alloc o) :=
  h.then (S' := fun _ => False) ⟨rfl, rfl, rfl, by simp, fun k hk _ => Below.heap_alloc _ _ _ hk⟩ fun _ _ h => h.elim
theorem Wrote.setCell {S : Nat → Prop} {a w : World} (h : Wrote S a w) {p : Addr} (hp : p.block < a.heap.size → S p.block) (u : Value) : Wrote S a (w.setCell p u) :=
  h.then (S' := fun k => k = p.block) ⟨rfl, rfl, rfl, by simp, fun k _ hn => Below.heap_setCell _ _ _ _ hn⟩ fun i hi he => by subst he; exact hp hi
theorem Wrote.grown {S : Nat → Prop} {a w w' : World} {row : Option Nat} (h : Wrote S a w) (hg : w.grownBy w' row) (hr : ∀ k, row = some k → k < a.heap.size → S k) : Wrote S a w' :=
  h.then (S' := fun k => row = some k) ⟨hg.os, hg.tape, hg.output, hg.size, fun k hk hn => hg.block k hk fun e => hn e.symm⟩ fun i hi he => hr i he hi
theorem Wrote.below {S : Nat → Prop} {B : Nat} {w w' : World} (h : Wrote S w w') (hB : B ≤ w.heap.size) (hs : ∀ k, k < B → ¬ S k) : Below B w w' :=
  ⟨h.os, h.tape, h.output, h.size, fun k hk => h.block k (Nat.lt_of_lt_of_le hk hB) (hs k hk)⟩
theorem Wrote.of_below {w w' : World} (h : Below w.heap.size w w') (S : Nat → Prop) : Wrote S w w' :=
  ⟨h.os, h.tape, h.output, h.size, fun k hk _ => h.block k hk⟩

theorem frozen_of_blk {w : World} {b : Nat} {cs : Array Value} {t : TypeId} (h : w.heap[b]? = some (.cells cs t (0, 0))) (i : Nat) : w.frozen? ⟨b, i, none⟩ = false := by simp [World.frozen?, h]
theorem cell_of_blk {w : World} {b : Nat} {cs : Array Value} {t : TypeId} (h : w.heap[b]? = some (.cells cs t (0, 0))) (i : Nat) : w.cell? ⟨b, i, none⟩ = cs[i]? := by simp [World.cell?, h]
theorem blk_setCell {w : World} {b : Nat} {cs : Array Value} {t : TypeId} (h : w.heap[b]? = some (.cells cs t (0, 0))) (i : Nat) (u : Value) :
    (w.setCell ⟨b, i, none⟩ u).heap[b]? = some (.cells (cs.setIfInBounds i u) t (0, 0)) := by
  have hlt := lt_of_block h
  have h' : w.heap[b] = .cells cs t (0, 0) := by simpa [Array.getElem?_eq_getElem hlt] using h
  show (w.heap.modify b _)[b]? = _
  rw [Array.getElem?_eq_getElem (by simpa using hlt), Array.getElem_modify_self, h']
  rfl

/-- A slice of int64 that reads as zs: nil, or a row of cells. -/
def IntRow (w : World) (a : Option Addr) (len : Nat) (zs : List Int) : Prop :=
  zs.length = len ∧ ((a = none ∧ len = 0) ∨ ∃ x : Addr, a = some x ∧ ∀ j, j < len → w.cell? (x.add j) = some (.int .i64 (zs.getD j 0)))

theorem block_add (x : Addr) (j : Nat) : (x.add j).block = x.block := by unfold Addr.add; split <;> rfl
theorem add_zero (x : Addr) : x.add 0 = x := by simp [Addr.add]
theorem add_at (b o j : Nat) : (⟨b, o, none⟩ : Addr).add j = ⟨b, o + j, none⟩ := by unfold Addr.add; split <;> simp_all

theorem IntRow.kept {S : Nat → Prop} {w w' : World} {a : Option Addr} {len : Nat} {zs : List Int} (h : IntRow w a len zs) (hw : Wrote S w w') (hs : ∀ x, a = some x → 0 < len → ¬ S x.block) : IntRow w' a len zs := by
  refine ⟨h.1, ?_⟩
  rcases h.2 with h | ⟨x, rfl, hc⟩
  · exact .inl h
  · refine .inr ⟨x, rfl, fun j hj => ?_⟩
    have hb := World.block_lt_of_cell? w _ (hc j hj)
    rw [World.cell?_of_block (w := w) (hw.block _ hb (by rw [block_add]; exact hs x rfl (by omega)))]
    exact hc j hj

theorem IntRow.below {w w' : World} {a : Option Addr} {len : Nat} {zs : List Int} (h : IntRow w a len zs) (hw : Below w.heap.size w w') : IntRow w' a len zs :=
  h.kept (S := fun _ => False) (Wrote.of_below hw _) fun _ _ _ h => h

/-- Where there is an element: the row's place, and its cells. -/
theorem IntRow.at {w : World} {a : Option Addr} {len : Nat} {zs : List Int} (h : IntRow w a len zs) (hl : 0 < len) :
    ∃ b off, a = some ⟨b, off, none⟩ ∧ b < w.heap.size ∧ ∀ j, j < len → w.cell? ⟨b, off + j, none⟩ = some (.int .i64 (zs.getD j 0)) := by
  rcases h.2 with ⟨_, h0⟩ | ⟨⟨b, off, sp⟩, rfl, hc⟩
  · omega
  · have h0 := hc 0 hl
    rw [add_zero] at h0
    have hsp : sp = none := by
      cases sp with
      | none => rfl
      | some q => simp only [World.cell?] at h0; split at h0 <;> simp at h0
    subst hsp
    refine ⟨b, off, rfl, World.block_lt_of_cell? w _ h0, fun j hj => ?_⟩
    rw [← add_at]; exact hc j hj

/-- An argument's reading, as the row's step hands it over. -/
theorem IntRow.of_in {w : World} {a : Option Addr} {len cap : Nat} {zs : List Int} (h : (a = none ∧ len = 0 ∧ cap = 0 ∧ zs = []) ∨
    ∃ x, a = some x ∧ len ≤ cap ∧ cap ≤ maxLen ∧ zs.length = cap ∧ (∀ i, i < zs.length → w.cell? (x.add i) = some (.int .i64 (zs.getD i 0))) ∧ ∀ n ∈ zs, (Lit.int .i64 n).wf = true) :
    IntRow w a len (zs.take len) ∧ len ≤ maxLen ∧ (∀ n ∈ zs.take len, (Lit.int .i64 n).wf = true) ∧ (a = none → cap = 0) := by
  rcases h with ⟨rfl, rfl, rfl, rfl⟩ | ⟨x, rfl, hl, hm, hz, hc, hw⟩
  · exact ⟨⟨rfl, .inl ⟨rfl, rfl⟩⟩, Nat.zero_le _, by simp, fun _ => rfl⟩
  · refine ⟨⟨by rw [List.length_take]; omega, .inr ⟨x, rfl, fun j hj => ?_⟩⟩, Nat.le_trans hl hm, fun n hn => hw n (List.mem_of_mem_take hn), fun h => by cases h⟩
    rw [hc j (by omega)]
    simp [List.getElem?_take, hj]

/-- What the memory holds. -/
structure MS where
  zs : List Int
  steps : Int
  kind : Int
  at_ : Int
  val : Int
  saw : Int
  done : Bool

def MS.cells (vw : Value) (s : MS) : Array Value := #[vw, .int .i64 s.steps, .int .i64 s.kind, .int .i64 s.at_, .int .i64 s.val, .int .i64 s.saw, .bool s.done]

/-- An access done: counted, and told as the last one. -/
def MS.acc (s : MS) (k a v o : Int) (d : Bool) : MS := { s with steps := wrap64 (s.steps + 1), kind := k, at_ := a, val := v, saw := o, done := d }
def MS.put (s : MS) (i : Nat) (v : Int) : MS := { s with zs := s.zs.set i v }
def MS.new (zs : List Int) : MS := ⟨zs, 0, 0, 0, 0, 0, false⟩

/-- Block b is a memory (type T, words of type E): its words' slice is vw, and what it holds is s. All of it lies from B on. -/
structure IsMem (T E : TypeId) (w : World) (B b : Nat) (vw : Value) (s : MS) : Prop where
  blk : w.heap[b]? = some (.cells (s.cells vw) T (0, 0))
  row : w.ownsRow B E 1 vw s.zs.length (s.zs.map (Value.int .i64))
  ne : vw.ownBlock ≠ some b
  base : B ≤ b

/-- The blocks of a memory. -/
def MemS (b : Nat) (vw : Value) : Nat → Prop := fun k => k = b ∨ vw.ownBlock = some k

theorem IsMem.lt {T E : TypeId} {w : World} {B b : Nat} {vw : Value} {s : MS} (h : IsMem T E w B b vw s) : b < w.heap.size := lt_of_block h.blk
theorem IsMem.old {T E : TypeId} {w : World} {B b : Nat} {vw : Value} {s : MS} (h : IsMem T E w B b vw s) : ∀ k, k < B → ¬ MemS b vw k := by
  intro k hk hS
  rcases hS with rfl | hS
  · have := h.base; omega
  · have := (h.row.lt k hS).1; omega

theorem IsMem.mono {T E : TypeId} {w : World} {B B' b : Nat} {vw : Value} {s : MS} (h : IsMem T E w B b vw s) (hB : B' ≤ B) : IsMem T E w B' b vw s := by
  refine ⟨h.blk, ⟨h.row.1, ?_⟩, h.ne, Nat.le_trans hB h.base⟩
  rcases h.row.2 with h | ⟨g, cap, cur, h1, h2, h3⟩
  · exact .inl h
  · exact .inr ⟨g, cap, cur, h1, Nat.le_trans hB h2, h3⟩

theorem IsMem.kept {T E : TypeId} {S : Nat → Prop} {w w' : World} {B b : Nat} {vw : Value} {s : MS} (h : IsMem T E w B b vw s) (hw : Wrote S w w') (hs : ∀ k, MemS b vw k → ¬ S k) : IsMem T E w' B b vw s := by
  refine ⟨(hw.block b h.lt (hs b (.inl rfl))).trans h.blk, ⟨h.row.1, ?_⟩, h.ne, h.base⟩
  rcases h.row.2 with h' | ⟨g, cap, cur, h1, h2, h3, h4⟩
  · exact .inl h'
  · refine .inr ⟨g, cap, cur, h1, h2, ?_, h4⟩
    rw [hw.block g (lt_of_block h3) (hs g (.inr (by simp [h1, Value.ownBlock])))]
    exact h3

/-- The seven cells, each as the walk asks for it. -/
theorem IsMem.facts {T E : TypeId} {w : World} {B b : Nat} {vw : Value} {s : MS} (h : IsMem T E w B b vw s) :
    (w.cell? ⟨b, 0, none⟩ = some vw ∧ w.cell? ⟨b, 1, none⟩ = some (.int .i64 s.steps) ∧ w.cell? ⟨b, 2, none⟩ = some (.int .i64 s.kind) ∧ w.cell? ⟨b, 3, none⟩ = some (.int .i64 s.at_) ∧
      w.cell? ⟨b, 4, none⟩ = some (.int .i64 s.val) ∧ w.cell? ⟨b, 5, none⟩ = some (.int .i64 s.saw) ∧ w.cell? ⟨b, 6, none⟩ = some (.bool s.done)) ∧ ∀ i, w.frozen? ⟨b, i, none⟩ = false :=
  ⟨⟨cell_of_blk h.blk 0, cell_of_blk h.blk 1, cell_of_blk h.blk 2, cell_of_blk h.blk 3, cell_of_blk h.blk 4, cell_of_blk h.blk 5, cell_of_blk h.blk 6⟩, fun i => frozen_of_blk h.blk i⟩

/-- Where there is a word, the words are a row; its cells. -/
theorem IsMem.word {T E : TypeId} {w : World} {B b : Nat} {vw : Value} {s : MS} (h : IsMem T E w B b vw s) {i : Nat} (hi : i < s.zs.length) :
    ∃ g cap, vw = .slice (some ⟨g, 0, none⟩) s.zs.length cap ∧ B ≤ g ∧ g < w.heap.size ∧ g ≠ b ∧ w.cell? ⟨g, i, none⟩ = some (.int .i64 (s.zs.getD i 0)) ∧ w.frozen? ⟨g, i, none⟩ = false := by
  rcases h.row.2 with ⟨_, h0⟩ | ⟨g, cap, cur, h1, h2, h3, _⟩
  · omega
  · subst h1
    have hr := h.row
    refine ⟨g, cap, rfl, h2, lt_of_block h3, fun e => h.ne (by simp [Value.ownBlock, e]), ?_, hr.frozenAt i⟩
    rw [hr.cellAt i (by simpa using hi)]
    simp [hi]

/-- The words' slice: how long it is. -/
theorem IsMem.shape {T E : TypeId} {w : World} {B b : Nat} {vw : Value} {s : MS} (h : IsMem T E w B b vw s) :
    ∃ a cap, vw = .slice a s.zs.length cap ∧ s.zs.length ≤ maxLen ∧ IntRow w a s.zs.length s.zs ∧ (∀ x, a = some x → vw.ownBlock = some x.block) := by
  rcases h.row.2 with ⟨h1, h0⟩ | ⟨g, cap, cur, h1, h2, h3, h4, h5, h6⟩
  · refine ⟨none, 0, by rw [h1, h0], by rw [h0]; exact Nat.zero_le _, ⟨rfl, .inl ⟨rfl, h0⟩⟩, by simp⟩
  · refine ⟨some ⟨g, 0, none⟩, cap, h1, Nat.le_trans h4 h5, ⟨rfl, .inr ⟨_, rfl, fun j hj => ?_⟩⟩, ?_⟩
    · subst h1
      rw [add_at, Nat.zero_add, h.row.cellAt j (by simpa using hj)]
      simp [hj]
    · intro x hx; rw [h1]; simp only [Option.some.injEq] at hx; subst hx; rfl

/-- Block b's cells turned to those of another state, the words as they were. -/
theorem IsMem.recell {T E : TypeId} {w w' : World} {B b : Nat} {vw : Value} {s t : MS} (h : IsMem T E w B b vw s) (hz : t.zs = s.zs) (hb : w'.heap[b]? = some (.cells (t.cells vw) T (0, 0)))
    (hw : Wrote (fun k => k = b) w w') : IsMem T E w' B b vw t := by
  refine ⟨hb, ⟨by rw [hz]; exact h.row.1, ?_⟩, h.ne, h.base⟩
  rw [hz]
  rcases h.row.2 with h' | ⟨g, cap, cur, h1, h2, h3, h4⟩
  · exact .inl h'
  · refine .inr ⟨g, cap, cur, h1, h2, ?_, h4⟩
    rw [hw.block g (lt_of_block h3) (fun e => h.ne (by simp [h1, Value.ownBlock, e]))]
    exact h3

/-- A word stored. -/
theorem IsMem.store {T E : TypeId} {w : World} {B b : Nat} {vw : Value} {s : MS} (h : IsMem T E w B b vw s) {g cap : Nat} (hv : vw = .slice (some ⟨g, 0, none⟩) s.zs.length cap) (i : Nat) (v : Int) :
    IsMem T E (w.setCell ⟨g, i, none⟩ (.int .i64 v)) B b vw (s.put i v) := by
  have hne : g ≠ b := fun e => h.ne (by simp [hv, Value.ownBlock, e])
  have hr := h.row
  rw [hv] at hr
  refine ⟨?_, ?_, h.ne, h.base⟩
  · rw [Below.heap_setCell _ _ _ _ (by exact fun e => hne e.symm)]; exact h.blk
  · have := (hr.stored i (.int .i64 v)).1
    rw [hv]
    simpa [MS.put, List.map_set] using this

/-- What 'count' leaves: the six cells behind the words. -/
theorem IsMem.counted {T E : TypeId} {w : World} {B b : Nat} {vw : Value} {s : MS} (h : IsMem T E w B b vw s) (k a v o : Int) (d : Bool) (ob : Obj) :
    IsMem T E (((((((w.setCell ⟨b, 1, none⟩ (.int .i64 (wrap64 (s.steps + 1)))).setCell ⟨b, 2, none⟩ (.int .i64 k)).setCell ⟨b, 3, none⟩ (.int .i64 a)).setCell ⟨b, 4, none⟩ (.int .i64 v)).setCell ⟨b, 5, none⟩ (.int .i64 o)).setCell ⟨b, 6, none⟩ (.bool d)).alloc ob) B b vw (s.acc k a v o d) ∧
    Wrote (fun k => k = b) w (((((((w.setCell ⟨b, 1, none⟩ (.int .i64 (wrap64 (s.steps + 1)))).setCell ⟨b, 2, none⟩ (.int .i64 k)).setCell ⟨b, 3, none⟩ (.int .i64 a)).setCell ⟨b, 4, none⟩ (.int .i64 v)).setCell ⟨b, 5, none⟩ (.int .i64 o)).setCell ⟨b, 6, none⟩ (.bool d)).alloc ob) := by
  have hw : Wrote (fun k => k = b) w (((((((w.setCell ⟨b, 1, none⟩ (.int .i64 (wrap64 (s.steps + 1)))).setCell ⟨b, 2, none⟩ (.int .i64 k)).setCell ⟨b, 3, none⟩ (.int .i64 a)).setCell ⟨b, 4, none⟩ (.int .i64 v)).setCell ⟨b, 5, none⟩ (.int .i64 o)).setCell ⟨b, 6, none⟩ (.bool d)).alloc ob) :=
    by
    refine Wrote.alloc ?_ _
    iterate 6 refine Wrote.setCell ?_ (by intro _; rfl) _
    exact Wrote.refl _ w
  refine ⟨h.recell rfl ?_ hw, hw⟩
  rw [Below.heap_alloc _ _ _ (by simpa using h.lt)]
  rw [blk_setCell (blk_setCell (blk_setCell (blk_setCell (blk_setCell (blk_setCell h.blk _ _) _ _) _ _) _ _) _ _) _ _]
  rfl

end Go.Proofs.Ytjfinnjmcnjciaa
