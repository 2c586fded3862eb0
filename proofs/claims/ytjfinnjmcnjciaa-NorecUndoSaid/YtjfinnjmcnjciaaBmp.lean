/-
  A bump of a clock as four numbers; where it stands; what a step of one comes to.
-/
import Derived.Test.YtjfinnjmcnjciaaBoth
namespace Go.Proofs.Ytjfinnjmcnjciaa
open Go.RowKit
attribute [local go_sem] Later.cell Later.frozen

structure BD where
  k : Int
  s : Int
  x : Int
  p : Int

@[reducible] def BD.v (h : BD) : Value := .agg #[.int .i64 h.k, .int .i64 h.s, .int .i64 h.x, .int .i64 h.p]
def BD.cells (h : BD) : Array Value := #[.int .i64 h.k, .int .i64 h.s, .int .i64 h.x, .int .i64 h.p]
@[reducible] def b0 : BD := ⟨0, 0, 0, 0⟩

def sameBD (a b : BD) : Bool := (a.k == b.k) && (a.s == b.s) && (a.x == b.x) && (a.p == b.p)
theorem sameBD_iff {a b : BD} : sameBD a b = true ↔ a = b := by
  obtain ⟨t, l, s, x⟩ := a
  obtain ⟨t', l', s', x'⟩ := b
  simp [sameBD, and_assoc]
theorem sameBD_refl (a : BD) : sameBD a a = true := sameBD_iff.2 rfl

theorem eq_bump (t l s x t' l' s' x' : Int) (w : World) :
    (binOp .eql 119 (.agg #[.int .i64 t, .int .i64 l, .int .i64 s, .int .i64 x]) (.agg #[.int .i64 t', .int .i64 l', .int .i64 s', .int .i64 x'])).run Try.prog w = .ok (.bool (sameBD ⟨t, l, s, x⟩ ⟨t', l', s', x'⟩)) w := by
  have u3 := Try.underlying3
  have a3 := Try.isAgg3
  have z3 := Try.sizeOf3
  have u2 := Try.underlying2
  have a2 := Try.isAgg2
  have z2 := Try.sizeOf2
  have hS : Try.prog.underlying 119 = some (.struct (Try.prog.fieldsOf 119)) := by kernel_rfl
  have hp : Try.prog.stoodInHeld 119 = false := by kernel_rfl
  rw [run_eql_struct, show (10000 : Nat) = 9999 + 1 from rfl, run_equalIn_agg w 9999 119 _ _ hS hp]
  simp only [Program.fieldsOf, Try.underlying119]
  go_simp
  unfold sameBD
  by_cases h1 : t = t' <;> by_cases h2 : l = l' <;> by_cases h3 : s = s' <;> by_cases h5 : x = x' <;> simp [h1, h2, h3, h5]
theorem guard_bump : Try.prog.eqGuardType Try.prog.depth 119 = false := by kernel_rfl

/-- Block q is a bump. -/
def BumpAt (T : TypeId) (w : World) (q : Nat) (h : BD) : Prop := w.heap[q]? = some (.cells h.cells T (0, 0))
section
variable {T : TypeId} {w w' : World} {q : Nat}
theorem BumpAt.lt {h : BD} (k : BumpAt T w q h) : q < w.heap.size := lt_of_block k
theorem BumpAt.new (T : TypeId) (w : World) (h : BD) : BumpAt T (w.alloc (.cells h.cells T)) w.heap.size h := heap_alloc_new _ _
theorem BumpAt.kept {S : Nat → Prop} {h : BD} (k : BumpAt T w q h) (hw : Wrote S w w') (hs : ¬ S q) : BumpAt T w' q h := (hw.block q k.lt hs).trans k
theorem BumpAt.below {h : BD} (k : BumpAt T w q h) (hb : Below w.heap.size w w') : BumpAt T w' q h := (hb.block q k.lt).trans k
theorem BumpAt.facts {t l s x : Int} (k : BumpAt T w q ⟨t, l, s, x⟩) :
    w.cell? ⟨q, 0, none⟩ = some (.int .i64 t) ∧ w.cell? ⟨q, 1, none⟩ = some (.int .i64 l) ∧ w.cell? ⟨q, 2, none⟩ = some (.int .i64 s) ∧ w.cell? ⟨q, 3, none⟩ = some (.int .i64 x) ∧ (∀ i, w.frozen? ⟨q, i, none⟩ = false) :=
  ⟨cell_of_blk k 0, cell_of_blk k 1, cell_of_blk k 2, cell_of_blk k 3, fun i => frozen_of_blk k i⟩
theorem BumpAt.setS {t l s x : Int} (k : BumpAt T w q ⟨t, l, s, x⟩) (y : Int) : BumpAt T (w.setCell ⟨q, 1, none⟩ (.int .i64 y)) q ⟨t, y, s, x⟩ := blk_setCell k 1 (.int .i64 y)
theorem BumpAt.setX {t l s x : Int} (k : BumpAt T w q ⟨t, l, s, x⟩) (y : Int) : BumpAt T (w.setCell ⟨q, 2, none⟩ (.int .i64 y)) q ⟨t, l, y, x⟩ := blk_setCell k 2 (.int .i64 y)
theorem BumpAt.setP {t l s x : Int} (k : BumpAt T w q ⟨t, l, s, x⟩) (y : Int) : BumpAt T (w.setCell ⟨q, 3, none⟩ (.int .i64 y)) q ⟨t, l, s, y⟩ := blk_setCell k 3 (.int .i64 y)
theorem BumpAt.set4 {g : BD} (k : BumpAt T w q g) (h : BD) :
    BumpAt T ((((w.setCell ⟨q, 0, none⟩ (.int .i64 h.k)).setCell ⟨q, 1, none⟩ (.int .i64 h.s)).setCell ⟨q, 2, none⟩ (.int .i64 h.x)).setCell ⟨q, 3, none⟩ (.int .i64 h.p)) q h :=
  blk_setCell (blk_setCell (blk_setCell (blk_setCell k 0 _) 1 _) 2 _) 3 _
theorem Wrote.set4 {S : Nat → Prop} {w W : World} (hw : Wrote S w W) {q : Nat} (hq : q < w.heap.size → S q) (a b c d : Value) :
    Wrote S w ((((W.setCell ⟨q, 0, none⟩ a).setCell ⟨q, 1, none⟩ b).setCell ⟨q, 2, none⟩ c).setCell ⟨q, 3, none⟩ d) :=
  (((hw.setCell (p := ⟨q, 0, none⟩) hq a).setCell (p := ⟨q, 1, none⟩) hq b).setCell (p := ⟨q, 2, none⟩) hq c).setCell (p := ⟨q, 3, none⟩) hq d
end
theorem Wrote.of_same {w w' : World} (h : w = w') (S : Nat → Prop) : Wrote S w w' := h ▸ Wrote.refl S w
theorem IsMem.young {T E : TypeId} {w : World} {B b : Nat} {vw : Value} {s : MS} (h : IsMem T E w B b vw s) : ∀ k, MemS b vw k → k < w.heap.size := fun k hk => by
  rcases hk with rfl | hk
  · exact h.lt
  · exact (h.row.lt k hk).2

/-- What a step of a bump comes to: the bump, and what the memory holds. -/
def BumpRet (T E : TypeId) (h' : BD) (s' : MS) (B b : Nat) (vw : Value) (w : World) (e : Ending) (w' : World) : Prop :=
  e = .returned h'.v ∧ IsMem T E w' B b vw s' ∧ Wrote (MemS b vw) w w'

/-- Where a walk stands: the bump in its box, the answer's box, what the memory holds. -/
structure BkAt (TB T E : TypeId) (w : World) (i j : Nat) (h g : BD) (B b : Nat) (vw : Value) (s : MS) (W : World) : Prop where
  box : BumpAt TB W i h
  out : BumpAt TB W j g
  mem : IsMem T E W B b vw s
  wrote : Wrote (MemS b vw) w W
  i0 : w.heap.size ≤ i
  j0 : w.heap.size ≤ j
  ij : i ≠ j
section
variable {TB T E : TypeId} {w : World} {i j : Nat} {h g : BD} {B b : Nat} {vw : Value} {s : MS} {W W' : World}
theorem BkAt.below (k : BkAt TB T E w i j h g B b vw s W) (hb : Below W.heap.size W W') : BkAt TB T E w i j h g B b vw s W' :=
  ⟨k.box.below hb, k.out.below hb, k.mem.kept (Wrote.of_below hb (fun _ => False)) (fun _ _ h => h), k.wrote.trans (Wrote.of_below hb _), k.i0, k.j0, k.ij⟩
theorem BkAt.next {s' : MS} (k : BkAt TB T E w i j h g B b vw s W) (hm : IsMem T E W' B b vw s') (hw : Wrote (MemS b vw) W W') (hold : ∀ j, MemS b vw j → j < w.heap.size) : BkAt TB T E w i j h g B b vw s' W' :=
  ⟨k.box.kept hw (fun e => by have := hold _ e; have := k.i0; omega), k.out.kept hw (fun e => by have := hold _ e; have := k.j0; omega), hm, k.wrote.trans hw, k.i0, k.j0, k.ij⟩
theorem BkAt.put {h' : BD} (k : BkAt TB T E w i j h g B b vw s W) (hold : ∀ j, MemS b vw j → j < w.heap.size) (n : Nat) (y : Value) (hb : BumpAt TB (W.setCell ⟨i, n, none⟩ y) i h') :
    BkAt TB T E w i j h' g B b vw s (W.setCell ⟨i, n, none⟩ y) := by
  have hw : Wrote (fun q => q = i) W (W.setCell ⟨i, n, none⟩ y) := (Wrote.refl (fun q => q = i) W).setCell (p := ⟨i, n, none⟩) (fun _ => rfl) _
  exact ⟨hb, k.out.kept hw (fun e => k.ij e.symm), k.mem.kept hw (fun q hq e => by have := hold q hq; have := k.i0; omega), k.wrote.setCell (p := ⟨i, n, none⟩) (fun h => by have := k.i0; simp only at h; omega) _, k.i0, k.j0, k.ij⟩
end
section
variable {TB T E : TypeId} {w : World} {i j : Nat} {t l x p : Int} {h g : BD} {B b : Nat} {vw : Value} {s : MS} {W W' : World}
theorem BkAt.setS (k : BkAt TB T E w i j ⟨t, l, x, p⟩ g B b vw s W) (hold : ∀ j, MemS b vw j → j < w.heap.size) (y : Int) : BkAt TB T E w i j ⟨t, y, x, p⟩ g B b vw s (W.setCell ⟨i, 1, none⟩ (.int .i64 y)) := k.put hold 1 _ (k.box.setS y)
theorem BkAt.setX (k : BkAt TB T E w i j ⟨t, l, x, p⟩ g B b vw s W) (hold : ∀ j, MemS b vw j → j < w.heap.size) (y : Int) : BkAt TB T E w i j ⟨t, l, y, p⟩ g B b vw s (W.setCell ⟨i, 2, none⟩ (.int .i64 y)) := k.put hold 2 _ (k.box.setX y)
theorem BkAt.setP (k : BkAt TB T E w i j ⟨t, l, x, p⟩ g B b vw s W) (hold : ∀ j, MemS b vw j → j < w.heap.size) (y : Int) : BkAt TB T E w i j ⟨t, l, x, y⟩ g B b vw s (W.setCell ⟨i, 3, none⟩ (.int .i64 y)) := k.put hold 3 _ (k.box.setP y)
theorem BkAt.done (k : BkAt TB T E w i j h g B b vw s W) (hold : ∀ j, MemS b vw j → j < w.heap.size) (h' : BD) (s' : MS) (hh : h = h') (hs : s = s') {v : Value} (hv : v = h.v) (a1 a2 a3 a4 : Value) :
    BumpRet T E h' s' B b vw w (.returned v) ((((W.setCell ⟨j, 0, none⟩ a1).setCell ⟨j, 1, none⟩ a2).setCell ⟨j, 2, none⟩ a3).setCell ⟨j, 3, none⟩ a4) := by
  subst hh hs
  exact ⟨by rw [hv], k.mem.kept ((Wrote.refl (fun q => q = j) W).set4 (fun _ => rfl) a1 a2 a3 a4) (fun q hq e => by have := hold q hq; have := k.j0; omega), k.wrote.set4 (fun h => by have := k.j0; omega) a1 a2 a3 a4⟩
theorem BkAt.out' (k : BkAt TB T E w i j h g B b vw s W) (hold : ∀ j, MemS b vw j → j < w.heap.size) (h' : BD) {v : Value} (hv : v = h'.v) (a1 a2 a3 a4 : Value) :
    BumpRet T E h' s B b vw w (.returned v) ((((W.setCell ⟨j, 0, none⟩ a1).setCell ⟨j, 1, none⟩ a2).setCell ⟨j, 2, none⟩ a3).setCell ⟨j, 3, none⟩ a4) :=
  ⟨by rw [hv], k.mem.kept ((Wrote.refl (fun q => q = j) W).set4 (fun _ => rfl) a1 a2 a3 a4) (fun q hq e => by have := hold q hq; have := k.j0; omega), k.wrote.set4 (fun h => by have := k.j0; omega) a1 a2 a3 a4⟩
end
/-- In the boxes that a call begins with: the bump's, the answer's. -/
theorem BkAt.two (TB T E : TypeId) {w : World} (h : BD) {B b : Nat} {vw : Value} {s : MS} (hm : IsMem T E w B b vw s) :
    BkAt TB T E w w.heap.size (w.heap.size + 1) h b0 B b vw s ((w.alloc (.cells h.cells TB)).alloc (.cells b0.cells TB)) := by
  have h1 := (BumpAt.new TB w h).below (bnew (bid _) (.cells b0.cells TB))
  have h2 := BumpAt.new TB (w.alloc (.cells h.cells TB)) b0
  rw [size_alloc1] at h2
  exact ⟨h1, h2, hm.kept (Wrote.of_below (bnew (bnew (bid w) _) _) (fun _ => False)) (fun _ _ h => h), Wrote.of_below (bnew (bnew (bid w) _) _) _, by omega, by omega, by omega⟩
/-- The same with a map's box ahead. -/
structure MkAt (TM TB T E : TypeId) (w : World) (m : PM) (h g : BD) (B b : Nat) (vw : Value) (s : MS) (W : World) : Prop where
  map : MapAt TM W w.heap.size m
  bk : BkAt TB T E w (w.heap.size + 1) (w.heap.size + 1 + 1) h g B b vw s W
section
variable {TM TB T E : TypeId} {w : World} {m : PM} {t l x p : Int} {h g : BD} {B b : Nat} {vw : Value} {s : MS} {W W' : World}
theorem MkAt.mem (k : MkAt TM TB T E w m h g B b vw s W) : IsMem T E W B b vw s := k.bk.mem
theorem MkAt.below (k : MkAt TM TB T E w m h g B b vw s W) (hb : Below W.heap.size W W') : MkAt TM TB T E w m h g B b vw s W' := ⟨k.map.below hb, k.bk.below hb⟩
theorem MkAt.next {s' : MS} (k : MkAt TM TB T E w m h g B b vw s W) (hm : IsMem T E W' B b vw s') (hw : Wrote (MemS b vw) W W') (hold : ∀ j, MemS b vw j → j < w.heap.size) : MkAt TM TB T E w m h g B b vw s' W' :=
  ⟨(hw.block _ k.map.lt (fun e => by have := hold _ e; omega)).trans k.map, k.bk.next hm hw hold⟩
theorem MkAt.put {h' : BD} (k : MkAt TM TB T E w m h g B b vw s W) (n : Nat) (y : Value) (hb : BkAt TB T E w (w.heap.size + 1) (w.heap.size + 1 + 1) h' g B b vw s (W.setCell ⟨w.heap.size + 1, n, none⟩ y)) : MkAt TM TB T E w m h' g B b vw s (W.setCell ⟨w.heap.size + 1, n, none⟩ y) := by
  have hw : Wrote (fun q => q = w.heap.size + 1) W (W.setCell ⟨w.heap.size + 1, n, none⟩ y) := (Wrote.refl (fun q => q = w.heap.size + 1) W).setCell (p := ⟨w.heap.size + 1, n, none⟩) (fun _ => rfl) _
  exact ⟨(hw.block _ k.map.lt (by omega)).trans k.map, hb⟩
theorem MkAt.setS (k : MkAt TM TB T E w m ⟨t, l, x, p⟩ g B b vw s W) (hold : ∀ j, MemS b vw j → j < w.heap.size) (y : Int) : MkAt TM TB T E w m ⟨t, y, x, p⟩ g B b vw s (W.setCell ⟨w.heap.size + 1, 1, none⟩ (.int .i64 y)) := k.put 1 _ (k.bk.setS hold y)
theorem MkAt.setX (k : MkAt TM TB T E w m ⟨t, l, x, p⟩ g B b vw s W) (hold : ∀ j, MemS b vw j → j < w.heap.size) (y : Int) : MkAt TM TB T E w m ⟨t, l, y, p⟩ g B b vw s (W.setCell ⟨w.heap.size + 1, 2, none⟩ (.int .i64 y)) := k.put 2 _ (k.bk.setX hold y)
theorem MkAt.setP (k : MkAt TM TB T E w m ⟨t, l, x, p⟩ g B b vw s W) (hold : ∀ j, MemS b vw j → j < w.heap.size) (y : Int) : MkAt TM TB T E w m ⟨t, l, x, y⟩ g B b vw s (W.setCell ⟨w.heap.size + 1, 3, none⟩ (.int .i64 y)) := k.put 3 _ (k.bk.setP hold y)
theorem MkAt.start (TM TB T E : TypeId) {w : World} (m : PM) (h : BD) {B b : Nat} {vw : Value} {s : MS} (hm : IsMem T E w B b vw s) :
    MkAt TM TB T E w m h b0 B b vw s (((w.alloc (.cells m.cells TM)).alloc (.cells h.cells TB)).alloc (.cells b0.cells TB)) := by
  have h1 := (BumpAt.new TB (w.alloc (.cells m.cells TM)) h).below (bnew (bid _) (.cells b0.cells TB))
  have h2 := BumpAt.new TB ((w.alloc (.cells m.cells TM)).alloc (.cells h.cells TB)) b0
  rw [size_alloc1] at h1
  rw [size_alloc2] at h2
  exact ⟨((MapAt.new TM w m).alloc _).alloc _, h1, h2, hm.kept (Wrote.of_below (bnew (bnew (bnew (bid w) _) _) _) (fun _ => False)) (fun _ _ h => h), Wrote.of_below (bnew (bnew (bnew (bid w) _) _) _) _, by omega, by omega, by omega⟩
end

/-- 'x & 1'. -/
theorem and1 (x : Int) : bits .and .i64 x 1 = x % 2 := by
  unfold bits
  show IntKind.i64.wrap (((BitVec.ofInt 64 x &&& BitVec.ofInt 64 1).toNat : Nat) : Int) = x % 2
  have e1 : (BitVec.ofInt 64 1).toNat = 1 := by decide
  rw [BitVec.toNat_and, e1, Nat.and_one_is_mod, BitVec.toNat_ofInt, IntKind.wrap_i64]
  omega

/-- A bump looks: an even one stays as long as what stands there is odd. -/
def lookF (s : MS) (h : BD) (p : Int) : BD × MS := (if h.k = 3 ∧ s.vAt p % 2 = 1 then h else ⟨h.k, 1, s.vAt p, h.p⟩, s.loaded p)
/-- A bump puts its stamp. -/
def putF (s : MS) (h : BD) (p more : Int) : BD × MS :=
  (if s.okAt p h.x = true then ⟨h.k, 9, h.x, wrap64 (h.x + more)⟩ else if h.k = 3 then ⟨h.k, 0, 0, h.p⟩ else ⟨h.k, 9, h.x, s.vAt p⟩, s.swapped p h.x (wrap64 (h.x + more)))
/-- A bump draws a stamp. -/
def drawF (s : MS) (h : BD) (p : Int) : BD × MS := if h.s = 0 then (⟨h.k, 9, h.x, wrap64 (s.vAt p + 1)⟩, s.added p 1) else (h, s)
def midF (s : MS) (h : BD) (p more : Int) : BD × MS := if h.s = 0 then lookF s h p else if h.s = 1 then putF s h p more else (h, s)
/-- A step of a bump. -/
def bumpF (m : PM) (s : MS) (h : BD) : BD × MS :=
  if m.Ok then
    if h.k = 1 then drawF s h (m.at_ 0 0 0)
    else if h.k = 2 then midF s h (m.at_ 0 0 0) 1
    else if h.k = 3 then midF s h (m.at_ 1 0 0) 2
    else (h, s)
  else (h, s)
theorem len_drawF (s : MS) (h : BD) (p : Int) : (drawF s h p).2.zs.length = s.zs.length := by
  unfold drawF
  split
  · exact len_added _ _ _
  · rfl
theorem len_midF (s : MS) (h : BD) (p more : Int) : (midF s h p more).2.zs.length = s.zs.length := by
  unfold midF
  split
  · exact len_loaded _ _
  · split
    · exact len_swapped _ _ _ _
    · rfl
theorem len_bumpF (m : PM) (s : MS) (h : BD) : (bumpF m s h).2.zs.length = s.zs.length := by
  unfold bumpF
  split
  · split
    · exact len_drawF _ _ _
    · split
      · exact len_midF _ _ _ _
      · split
        · exact len_midF _ _ _ _
        · rfl
  · rfl

end Go.Proofs.Ytjfinnjmcnjciaa
