/-
  eval.Mates: which instructions belong together.
-/
import Derived.Test.YtblalejegjieaaaGreatDoorIrow
import Derived.Test.YtblalejegjieaaaGreatDoorLater
import Derived.Deep.DeepCutAuto
import Derived.Deep.CutBlock
import Derived.StillTailTactics
namespace Go.Proofs.YtblalejegjieaaaGreatDoor
open Go.RowKit
set_option linter.unusedVariables false

theorem cell_two_new (w : World) (x y : Value) (t : TypeId) : ∀ j u, [x, y][j]? = some u → (w.alloc (.cells #[x, y] t)).cell? ((⟨w.heap.size, 0, none⟩ : Addr).add j) = some u := by
  intro j u hj
  match j, hj with
  | 0, hj => simp at hj; subst hj; simp [Addr.add]
  | 1, hj => simp at hj; subst hj; simp [Addr.add]
theorem infoInt : (Tryz.prog.info? 3).map (fun i => (i.zero, i.size, i.bytes)) = some (some (.int .i64 0), 1, 8) := by kernel_rfl
theorem infoBlk : (Tryz.prog.info? 139).map (fun i => (i.zero, i.size, i.bytes)) = some (some (.agg #[.int .i64 0, .int .i64 0]), 2, 16) := by kernel_rfl

/-- What is handed back. -/
def MatesRet (os : List Int) (w : World) (e : Ending) (w' : World) : Prop :=
  ∃ a c, e = .returned (.tuple #[.slice a (matesOf os).1.length c, .int .i64 (matesOf os).2]) ∧ IntRow w' a (matesOf os).1.length (matesOf os).1 ∧ (∀ x, a = some x → w.heap.size ≤ x.block) ∧ Below w.heap.size w w'

/-- The state of the loop ahead of round k. -/
structure MatesAt (ps : List Ins) (w : World) (gm n k : Nat) (s : MSt) (v : Value) (wr : World) : Prop where
  ms : Ints 3 wr w.heap.size gm n s.ms
  op : wr.ownsRow w.heap.size 139 2 v s.op.length (blkCells s.op)
  ne : v.ownBlock ≠ some gm
  below : Below w.heap.size w wr
  inv : MInv n k s
  go : mgo (opsOf ps) (n - k) k s = matesOf (opsOf ps)

/-- Behind the first two statements of a round. -/
structure MatesMid (w : World) (gm n k : Nat) (i : Ins) (s : MSt) (v : Value) (b7 : Nat) (wr : World) : Prop where
  ms : Ints 3 wr w.heap.size gm n (s.ms.set k (-1))
  op : wr.ownsRow w.heap.size 139 2 v s.op.length (blkCells s.op)
  below : Below w.heap.size w wr
  box : wr.heap[b7]? = some (.cells i.cs 40 (0, 0))
  ne7 : b7 ≠ gm
  nev : v.ownBlock ≠ some b7

theorem MatesMid.pushed {ps : List Ins} {w wr W w' : World} {gm n k b7 : Nat} {i : Ins} {s : MSt} {v v' : Value} {o : Obj} (h : MatesMid w gm n k i s v b7 W) (hx : MatesAt ps w gm n k s v wr) (hk : k < n) (hp : ps[k]? = some i) (hin : isIn i.op = true)
    (hown : w'.ownsRow w.heap.size 139 2 v' (s.op.length + 1) (blkCells s.op ++ [.int .i64 (k : Int), .int .i64 (k : Int)])) (hg : (W.alloc o).grownBy w' v.ownBlock) (hat : v'.ownBlock = v.ownBlock ∨ v'.ownBlock = some (W.alloc o).heap.size) :
    MatesAt ps w gm n (k + 1) ⟨s.ms.set k (-1), s.op ++ [(k, k)]⟩ v' w' := by
  have hs : mstep (opsOf ps) k s = some ⟨s.ms.set k (-1), s.op ++ [(k, k)]⟩ := by
    unfold mstep
    rw [opsOf_at hp, if_pos hin]
  have hlt := h.ms.lt.2
  refine ⟨(h.ms.alloc o).kept (S := fun b => v.ownBlock = some b) ((Wrote.refl _ _).grown hg fun _ h _ => h) hx.ne, ?_, ?_, ?_, hx.inv.step hs, mgo_yes hx.go hk hs⟩
  · rw [blkCells_snoc, List.length_append]
    exact hown
  · rcases hat with e | e
    · rw [e]; exact hx.ne
    · rw [e]
      intro e'
      simp only [size_alloc1, Option.some.injEq] at e'
      omega
  · exact (bnew h.below o).grown hg (bnew h.below o).size fun j hj => (h.op.lt j hj).1

theorem MatesMid.other {ps : List Ins} {w wr W : World} {gm n k b7 : Nat} {i : Ins} {s : MSt} {v : Value} (h : MatesMid w gm n k i s v b7 W) (hx : MatesAt ps w gm n k s v wr) (hk : k < n) (hp : ps[k]? = some i) (hin : isIn i.op = false) (hout : isOut i.op = false) :
    MatesAt ps w gm n (k + 1) ⟨s.ms.set k (-1), s.op⟩ v W := by
  have hs : mstep (opsOf ps) k s = some ⟨s.ms.set k (-1), s.op⟩ := by
    unfold mstep
    rw [opsOf_at hp, if_neg (by simp [hin]), if_neg (by simp [hout])]
  exact ⟨h.ms, h.op, hx.ne, h.below, hx.inv.step hs, mgo_yes hx.go hk hs⟩

theorem quiet_mine {P : Program} {f : FuncId} {args : Array Value} {w : World} {n : Nat} {v : Value}
    (h : Calls P f args (w.drewN n) fun e w' => e = .returned v ∧ w.drewN n = w') : Calls P f args (w.drewN n) fun e w'' => e = .returned v ∧ ∃ m, w'' = w.drewN m :=
  h.mono fun _ _ ⟨he, hm⟩ => ⟨he, n, hm.symm⟩
theorem nil_or_snoc {α : Type} (l : List α) : l = [] ∨ ∃ t x, l = t ++ [x] := by
  rcases List.eq_nil_or_concat l with h | ⟨t, x, h⟩
  · exact .inl h
  · exact .inr ⟨t, x, by rw [h, List.concat_eq_append]⟩
theorem own_wrote {S : Nat → Prop} {w w' : World} {B : Nat} {e : TypeId} {sz n : Nat} {v : Value} {xs : List Value} (h : w.ownsRow B e sz v n xs) (hw : Wrote S w w') (hs : ∀ x, v.ownBlock = some x → ¬ S x) : w'.ownsRow B e sz v n xs := by
  refine ⟨h.1, ?_⟩
  rcases h.2 with h' | ⟨g, cap, cur, rfl, h1, h2, h3⟩
  · exact .inl h'
  · refine .inr ⟨g, cap, cur, rfl, h1, ?_, h3⟩
    rw [hw.block g (lt_of_block h2) (hs g rfl)]
    exact h2
theorem bdrewN {w W : World} {n : Nat} (h : Below w.heap.size w W) : Below w.heap.size w (W.drewN n) := ⟨h.os, h.tape, h.output, h.size, h.block⟩

theorem MatesMid.drewN {w : World} {gm n k : Nat} {i : Ins} {s : MSt} {v : Value} {b7 : Nat} {wr : World} (h : MatesMid w gm n k i s v b7 wr) (q : Nat) : MatesMid w gm n k i s v b7 (wr.drewN q) := by
  have hb : Below wr.heap.size wr (wr.drewN q) := ⟨rfl, rfl, rfl, Nat.le_refl _, fun _ _ => rfl⟩
  exact ⟨h.ms.below hb, own_wrote h.op (Wrote.of_below hb (fun _ => False)) (fun _ _ h => h), bdrewN h.below, h.box, h.ne7, h.nev⟩

/-- Behind the joining. -/
structure MatesJoin (w : World) (gm n : Nat) (ms' : List Int) (op : Int) (b7 g d cap : Nat) (xs : List Value) (wr : World) : Prop where
  ms : Ints 3 wr w.heap.size gm n ms'
  row : wr.ownsRow w.heap.size 139 2 (.slice (some ⟨g, 0, none⟩) (d + 1) cap) (d + 1) xs
  below : Below w.heap.size w wr
  box : wr.cell? ⟨b7, 0, none⟩ = some (.int .i64 op)
  ne : g ≠ gm
  old : w.heap.size ≤ g

theorem MatesMid.joined {w W Wd w' : World} {gm n k b7 : Nat} {i : Ins} {s : MSt} {g d cap : Nat} {ms' : List Int} (h : MatesMid w gm n k i s (.slice (some ⟨g, 0, none⟩) (d + 1) cap) b7 W) (hl : s.op.length = d + 1) (hne : g ≠ gm)
    (hd : Below W.heap.size W Wd) (hm : Ints 3 w' w.heap.size gm n ms') (hw : Wrote (fun b => b = gm) Wd w') : MatesJoin w gm n ms' i.op b7 g d cap (blkCells s.op) w' := by
  have hlt := h.op.lt g rfl
  have hb7 := lt_of_block h.box
  have hgm := h.ms.lt
  have e7 : w'.heap[b7]? = W.heap[b7]? := (hw.block b7 (Nat.lt_of_lt_of_le hb7 hd.size) h.ne7).trans (hd.block b7 hb7)
  refine ⟨hm, ?_, ?_, ?_, hne, hlt.1⟩
  · have h1 := own_wrote h.op ((Wrote.of_below hd (fun b => b = gm)).trans hw) (fun x hx => by cases hx; exact hne)
    rw [hl] at h1
    exact h1
  · have h2 := hw.below (B := w.heap.size) (Nat.le_trans h.below.size hd.size) (fun j hj e => by omega)
    exact (bthen h.below hd).trans h2
  · rw [World.cell?_of_block (a := ⟨b7, 0, none⟩) e7]
    exact (cell_of_blk h.box 0).trans rfl

/-- What ends it: nothing, and a place. -/
theorem MatesRet.no {os : List Int} {w w' : World} {r : Int} (hR : matesOf os = ([], r)) (hb : Below w.heap.size w w') : MatesRet os w (.returned (.tuple #[.slice none 0 0, .int .i64 r])) w' := by
  unfold MatesRet
  rw [hR]
  exact ⟨none, 0, rfl, ⟨rfl, .inl ⟨rfl, rfl⟩⟩, by simp, hb⟩

theorem mstep_empty {ps : List Ins} {k : Nat} {i : Ins} {s : MSt} (hp : ps[k]? = some i) (hout : isOut i.op = true) (h : s.op = []) : mstep (opsOf ps) k s = none := by
  have hin : isIn i.op = false := by
    have := of_decide_eq_true hout
    exact decide_eq_false (by omega)
  unfold mstep
  rw [opsOf_at hp, if_neg (by simp [hin]), if_pos hout, h]
  rfl
theorem mstep_unfit {ps : List Ins} {k fr la : Nat} {i j : Ins} {s : MSt} {t : List (Nat × Nat)} (hp : ps[k]? = some i) (hj : ps[la]? = some j) (hout : isOut i.op = true) (h : s.op = t ++ [(fr, la)]) (hf : fitsB i.op j.op = false) : mstep (opsOf ps) k s = none := by
  have hin : isIn i.op = false := by
    have := of_decide_eq_true hout
    exact decide_eq_false (by omega)
  unfold mstep
  rw [opsOf_at hp, if_neg (by simp [hin]), if_pos hout, h]
  simp [opsOf, hj, hf]
theorem mstep_fit {ps : List Ins} {k fr la : Nat} {i j : Ins} {s : MSt} {t : List (Nat × Nat)} (hp : ps[k]? = some i) (hj : ps[la]? = some j) (hout : isOut i.op = true) (h : s.op = t ++ [(fr, la)]) (hf : fitsB i.op j.op = true) :
    mstep (opsOf ps) k s = some ⟨mjoin (s.ms.set k (-1)) i.op la k, if i.op = 19 then t ++ [(fr, k)] else t⟩ := by
  have hin : isIn i.op = false := by
    have := of_decide_eq_true hout
    exact decide_eq_false (by omega)
  unfold mstep
  rw [opsOf_at hp, if_neg (by simp [hin]), if_pos hout, h]
  simp [opsOf, hj, hf]

theorem MatesJoin.popped {ps : List Ins} {w wr w' : World} {gm n k b7 g d cap fr la : Nat} {i j : Ins} {s : MSt} {v : Value} {t : List (Nat × Nat)} {xs : List Value} (h : MatesJoin w gm n (mjoin (s.ms.set k (-1)) i.op la k) i.op b7 g d cap xs w') (hx : MatesAt ps w gm n k s v wr) (hk : k < n)
    (hp : ps[k]? = some i) (hj : ps[la]? = some j) (hout : isOut i.op = true) (hs : s.op = t ++ [(fr, la)]) (hd : t.length = d) (hxs : xs = blkCells s.op) (hf : fitsB i.op j.op = true) (h19 : i.op ≠ 19) :
    MatesAt ps w gm n (k + 1) ⟨mjoin (s.ms.set k (-1)) i.op la k, t⟩ (.slice (some ⟨g, 0, none⟩) d cap) w' := by
  have hst := mstep_fit hp hj hout hs hf
  rw [if_neg h19] at hst
  subst hd hxs
  refine ⟨h.ms, ?_, by simp [Value.ownBlock, h.ne], h.below, hx.inv.step hst, mgo_yes hx.go hk hst⟩
  refine ownsRow_pop (last := [.int .i64 (fr : Int), .int .i64 (la : Int)]) (blkCells_len t) ?_
  have := h.row
  rw [hs, blkCells_snoc] at this
  exact this
theorem MatesJoin.turned {ps : List Ins} {w wr w' : World} {gm n k b7 g d cap fr la : Nat} {i j : Ins} {s : MSt} {v : Value} {t : List (Nat × Nat)} {xs : List Value} (h : MatesJoin w gm n (mjoin (s.ms.set k (-1)) i.op la k) i.op b7 g d cap xs w') (hx : MatesAt ps w gm n k s v wr) (hk : k < n)
    (hp : ps[k]? = some i) (hj : ps[la]? = some j) (hout : isOut i.op = true) (hs : s.op = t ++ [(fr, la)]) (hd : t.length = d) (hxs : xs = blkCells s.op) (hf : fitsB i.op j.op = true) (h19 : i.op = 19) :
    MatesAt ps w gm n (k + 1) ⟨mjoin (s.ms.set k (-1)) i.op la k, t ++ [(fr, k)]⟩ (.slice (some ⟨g, 0, none⟩) (d + 1) cap) (w'.setCell ⟨g, d * 2 + 1, none⟩ (.int .i64 (k : Int))) := by
  have hst := mstep_fit hp hj hout hs hf
  rw [if_pos h19] at hst
  subst hd hxs
  refine ⟨h.ms.far (by exact h.ne) _, ?_, by simp [Value.ownBlock, h.ne], h.below.setCell h.old _, hx.inv.step hst, mgo_yes hx.go hk hst⟩
  have h1 := (World.ownsRow.stored h.row (t.length * 2 + 1) (.int .i64 (k : Int))).1
  rw [hs, blkCells_snoc] at h1
  rw [blkCells_snoc, List.length_append]
  have e : (blkCells t ++ [Value.int .i64 (fr : Int), .int .i64 (la : Int)]).set (t.length * 2 + 1) (.int .i64 (k : Int)) = blkCells t ++ [.int .i64 (fr : Int), .int .i64 (k : Int)] := by
    rw [List.set_append_right _ _ (by rw [blkCells_len]; omega), blkCells_len, show t.length * 2 + 1 - t.length * 2 = 1 by omega]
    rfl
  rw [e] at h1
  exact h1

set_option maxRecDepth 100000 in
set_option maxHeartbeats 4000000 in
theorem Mates_any (a : Option Addr) (n c : Nat) (ps : List Ins) (w : World) (hr : InsRow w a n ps) (hn : n ≤ 100000) :
    Calls Tryz.prog 58 #[.slice a n c] w (MatesRet (opsOf ps) w) := by
  obtain ⟨i0, hi, hz0, hz1, hz2⟩ := info_parts infoInt
  obtain ⟨iB, hi', hy0, hy1, hy2⟩ := info_parts infoBlk
  have E1 : Hid ((n : Int) = ((n : Nat) : Int)) := hid rfl
  have E2 : Hid (i0.bytes * n ≤ 281474976710656) := hid (by rw [hz2]; omega)
  have E3 : Hid (n ≤ maxLen) := hid (by unfold maxLen; omega)
  have HR := hid hr
  clear hr
  go_enter Tryz.func58, Tryz.ntmps58
  go_wp2_with (at_make; refine wpList_make_full _ rfl _ _ 31 rfl w.heap.size 3 i0 (.int .i64 0) 1 Tryz.underlying31 hi hz0 hz1 .i64 .i64 _ _ n rfl rfl E1.out E1.out E2.out E3.out (Nat.le_refl _) ?_; intro w1 hown hg1; have HI := hid (Ints.made hown); clear hown)
  have HB1 : Hid (Below w.heap.size w w1) := hid ((Below.refl _ _).grown hg1 (Nat.le_refl _) (by simp))
  have HGM := hid HI.out.lt
  clear hg1
  have HX : Hid (MatesAt ps w w.heap.size n 0 ⟨List.replicate n 0, []⟩ (.slice none 0 0) w1) := hid ⟨HI.out, World.ownsRow_nil _ _ _ _, by simp [Value.ownBlock], HB1.out, ⟨by simp, by simp, by simp⟩, by
    have hl : (opsOf ps).length = n := by rw [← HR.out.cnt]; simp [opsOf]
    unfold matesOf
    rw [hl]
    rfl⟩
  clear HI HB1
  go_loopw [5, 14] (fun v i wr => ∃ (k : Nat) (s : MSt), k ≤ n ∧ i = .int .i64 k ∧ MatesAt ps w w.heap.size n k s v wr) (fun _ i _ => n - (intOf i).toNat)
  case atStart => exact ⟨0, _, Nat.zero_le _, rfl, HX.out⟩
  case round =>
    clear HX
    obtain ⟨k, s, hk, rfl, hx⟩ := hrel
    have HX := hid hx
    clear hx
    by_cases hlt : k < n
    case pos =>
      obtain ⟨b, off, ha, hb, hps⟩ := HR.out.at (by omega)
      subst ha
      obtain ⟨⟨op, ia, ib, ic, iN⟩, hpi⟩ : ∃ i, ps[k]? = some i := ⟨_, List.getElem?_eq_getElem (by rw [HR.out.cnt]; exact hlt)⟩
      have hin := (hps k _ hpi).keep (HX.out.below.block b hb)
      obtain ⟨p0, p1, p2, p3, p4⟩ := hin
      dsimp only at p0 p1 p2 p3 p4
      have hml := HX.out.inv.len
      have hkl : k < s.ms.length := by omega
      have ck := HX.out.ms.cell hkl
      have fk := HX.out.ms.frozen k
      have HPS := hid hps
      have HB := hid hb
      have HPI := hid hpi
      clear hpi hps hb
      have i1 : (0 : Int) ≤ (k : Int) := by omega
      have i2 : (k : Int) < (n : Int) := by omega
      have gm1 := HX.out.ms.lt.2
      have gm2 : w.heap.size ≠ wr.heap.size := by omega
      have hc := HGM.out.2
      go_upto_region 7 with fail
      refine wp_rename (fun W => MatesMid w w.heap.size n k ⟨op, ia, ib, ic, iN⟩ s u5 wr.heap.size W) ⟨(HX.out.ms.store k (-1)).alloc _, (ownsRow_setCell_other HX.out.op HX.out.ne _).alloc _, ?_, ?_, ?_, ?_⟩ ?_
      · exact bnew (HX.out.below.setCell (Nat.le_refl _) _) _
      · have := heap_alloc_new (wr.setCell ⟨w.heap.size, k, none⟩ (.int .i64 (-1))) (.cells #[.int .i64 op, .int .i64 ia, .int .i64 ib, .int .i64 ic, .int .i64 iN] 40)
        simpa [Ins.cs] using this
      · omega
      · intro e
        have := HX.out.op.lt _ e
        omega
      intro W hW
      have HW := hid hW
      clear hW ck fk p0 p1 p2 p3 p4
      have b0 := cell_of_blk HW.out.box 0
      have b1 := cell_of_blk HW.out.box 1
      simp only [Ins.cs, List.getElem?_toArray, List.getElem?_cons_zero, List.getElem?_cons_succ] at b0 b1
      by_cases hin : isIn op = true
      · have HIN := hid hin
        have hin' := of_decide_eq_true hin
        clear hin
        have NEW := hid (cell_two_new W (.int .i64 (k : Int)) (.int .i64 (k : Int)) 139)
        have hfew := HX.out.inv.few
        have E6 : Hid (s.op.length + 1 ≤ maxLen) := hid (by unfold maxLen; omega)
        have E7 : Hid ((s.op.length + 1) * 16 ≤ 140737488355328) := hid (by omega)
        have E8 : Hid (w.heap.size ≤ (W.alloc (.cells #[.int .i64 (k : Int), .int .i64 (k : Int)] 139)).heap.size) := hid (bnew HW.out.below _).size
        have E9 : Hid (∀ u ∈ [Value.int .i64 (k : Int), Value.int .i64 (k : Int)], u.oneCell' = true) := hid (by intro u hu; simp at hu; subst hu; rfl)
        clear hfew
        rcases hin' with rfl | rfl | rfl
        all_goals
          go_wp2_with (at_builtin; go_must (refine wpList_append_own_at _ rfl _ _ 137 rfl w.heap.size 139 iB (.agg #[.int .i64 0, .int .i64 0]) 2 16 Tryz.underlying137 hi' hy0 hy1 hy2 rfl (by decide) u5 s.op.length (blkCells s.op) rfl (HW.out.op.alloc _) ⟨W.heap.size, 0, none⟩ 1 1 [.int .i64 (k : Int), .int .i64 (k : Int)] rfl rfl NEW.out E9.out E6.out E7.out E8.out ?_); intro v' w' hown' hg' _ hat'; have HP := hid (HW.out.pushed HX.out hlt HPI.out HIN.out hown' hg' hat'); clear hown' hg' hat')
          go_roundw
          case rel => exact ⟨k + 1, _, by omega, by go_num, HP.out⟩
          case measure => simp [intOf]; omega
      · have hin : isIn op = false := by simpa using hin
        by_cases hout : isOut op = true
        · have HOUT := hid hout
          have hout' := of_decide_eq_true hout
          clear hin hout
          obtain ⟨ms, st⟩ := s
          rcases nil_or_snoc st with rfl | ⟨t, ⟨fr, la⟩, rfl⟩
          · have HP : Hid (∀ q, MatesRet (opsOf ps) w (.returned (.tuple #[.slice none 0 0, .int .i64 (k : Int)])) (W.drewN q)) := hid fun q => MatesRet.no (mgo_no HX.out.go hlt (mstep_empty HPI.out HOUT.out rfl)) (bdrewN HW.out.below)
            obtain ⟨va, vc, rfl⟩ : ∃ va vc, u5 = .slice va 0 vc := by
              rcases HW.out.op.2 with ⟨e, _⟩ | ⟨g, cap, cur, e, _⟩
              · exact ⟨_, _, e⟩
              · exact ⟨_, _, e⟩
            rcases hout' with rfl | rfl | rfl | rfl
            all_goals
              go_wp2
              go_quiet (fail)
              go_wp2
              go_ret2
              exact HP.out _
          · have hl1 : (t ++ [(fr, la)]).length = t.length + 1 := by simp
            have HO := hid HW.out.op
            dsimp only at HO
            rw [hl1, blkCells_snoc] at HO
            obtain ⟨g, cap, hv, -, -⟩ := World.ownsRow.form HO.out (by omega)
            subst hv
            have hne : g ≠ w.heap.size := fun e => HX.out.ne (by simp [Value.ownBlock, e])
            have HNE := hid hne
            have hl2 := blkCells_len t
            have cf : W.cell? ⟨g, t.length * 2, none⟩ = some (.int .i64 (fr : Int)) := (HO.out.cellAt (t.length * 2) (by omega)).trans (by rw [List.getElem?_append_right (by omega), hl2, Nat.sub_self]; rfl)
            have cl : W.cell? ⟨g, t.length * 2 + 1, none⟩ = some (.int .i64 (la : Int)) := (HO.out.cellAt (t.length * 2 + 1) (by omega)).trans (by rw [List.getElem?_append_right (by omega), hl2, show t.length * 2 + 1 - t.length * 2 = 1 by omega]; rfl)
            have hla := (HX.out.inv.lt (fr, la) (by simp)).2
            dsimp only at hla
            obtain ⟨⟨jop, ja, jb, jc, jN⟩, hpj⟩ : ∃ j, ps[la]? = some j := ⟨_, List.getElem?_eq_getElem (by rw [HR.out.cnt]; omega)⟩
            have q0 := ((HPS.out la _ hpj).keep (HW.out.below.block b HB.out)).c0
            dsimp only at q0
            have HPJ := hid hpj
            dsimp only at hml
            have HLN : Hid (la < (mjoin (ms.set k (-1)) op la k).length ∧ ms.length = n) := hid ⟨by rw [mjoin_len]; simp; omega, hml⟩
            have j1 : (0 : Int) ≤ (la : Int) := by omega
            have j2 : (la : Int) < (n : Int) := by omega
            have j3 : (0 : Int) ≤ (t.length : Int) := by omega
            have j5 : (t.length : Int) < (t.length : Int) + 1 := by omega
            have j4 : (t.length : Int) ≤ 100000 := by have := HX.out.inv.few; dsimp only at this; omega
            have HLA := hid hla
            have j6 : t.length ≤ cap := by
              rcases HO.out.2 with ⟨e, _⟩ | ⟨g', cap', cur, e, _, _, e2, _⟩
              · cases e
              · cases e; omega
            have j7 : (t.length : Int) ≤ (cap : Int) := by omega
            have gd : decide ((t.length : Int) < 0) = false := by simp
            clear hpj hl1 hl2 hla hne hml
            cases hf : fitsB op jop
            · have HP : Hid (∀ q, MatesRet (opsOf ps) w (.returned (.tuple #[.slice none 0 0, .int .i64 (k : Int)])) (W.drewN q)) := hid fun q => MatesRet.no (mgo_no HX.out.go hlt (mstep_unfit HPI.out HPJ.out HOUT.out rfl hf)) (bdrewN HW.out.below)
              rcases hout' with rfl | rfl | rfl | rfl
              all_goals
                go_wp2
                go_quiet ((go_at_call 73; exact quiet_mine (fits_any _ _ _ HOUT.out)))
                go_wp2
                go_ret2
                exact HP.out _
            · have HF := hid hf
              have HL2 : Hid (la < n ∧ (ms.set k (-1)).length = n) := hid ⟨by have := HLA.out; omega, by simpa using HLN.out.2⟩
              rcases hout' with rfl | rfl | rfl | rfl
              · go_wp2
                go_quiet ((go_at_call 73; exact quiet_mine (fits_any _ _ _ HOUT.out)))
                go_upto_region 19 with fail
                refine wp_rename (fun V => MatesMid w w.heap.size n k ⟨19, ia, ib, ic, iN⟩ ⟨ms, t ++ [(fr, la)]⟩ (.slice (some ⟨g, 0, none⟩) (t.length + 1) cap) wr.heap.size V) (HW.out.drewN nq) ?_
                intro V hV
                have HV := hid hV
                clear hV b0 b1 cf cl q0
                have b0 := cell_of_blk HV.out.box 0
                simp only [Ins.cs, List.getElem?_toArray, List.getElem?_cons_zero, List.getElem?_cons_succ] at b0
                have HO2 := hid HV.out.op
                dsimp only at HO2
                rw [show (t ++ [(fr, la)]).length = t.length + 1 by simp, blkCells_snoc] at HO2
                have cl : V.cell? ⟨g, t.length * 2 + 1, none⟩ = some (.int .i64 (la : Int)) := (HO2.out.cellAt (t.length * 2 + 1) (by have := blkCells_len t; omega)).trans (by have hl2 := blkCells_len t; rw [List.getElem?_append_right (by omega), hl2, show t.length * 2 + 1 - t.length * 2 = 1 by omega]; rfl)
                go_still_tail 9, (by kernel_rfl)
                go_wp2_with (go_at_call 74; go_must (refine (join_at 19 la k w.heap.size n w.heap.size n (ms.set k (-1)) _ HOUT.out HV.out.ms.drew HL2.out.2 HL2.out.1 hlt HLA.out).mono ?_; rintro e w' ⟨rfl, hj1, hj2⟩; have HJ := hid (HV.out.joined (by simp) HNE.out (bdrew (bid V)) hj1 hj2); clear hj1 hj2; have d0 := HJ.out.box; have HO3 := hid HJ.out.row; have d1 := HO3.out.cellAt (t.length * 2 + 1) (by omega); have d2 := HO3.out.frozenAt (t.length * 2 + 1); dsimp only at d0; rw [blkCells_snoc, List.getElem?_append_right (by rw [blkCells_len]; omega), blkCells_len, show t.length * 2 + 1 - t.length * 2 = 1 by omega] at d1; simp only [List.getElem?_cons_succ, List.getElem?_cons_zero] at d1))
                exact ⟨⟨k + 1, _, by omega, by go_num, HJ.out.turned HX.out hlt HPI.out HPJ.out HOUT.out rfl rfl rfl HF.out rfl⟩, by simp [intOf]; omega⟩
              · go_wp2
                go_quiet ((go_at_call 73; exact quiet_mine (fits_any _ _ _ HOUT.out)))
                go_upto_region 19 with fail
                refine wp_rename (fun V => MatesMid w w.heap.size n k ⟨20, ia, ib, ic, iN⟩ ⟨ms, t ++ [(fr, la)]⟩ (.slice (some ⟨g, 0, none⟩) (t.length + 1) cap) wr.heap.size V) (HW.out.drewN nq) ?_
                intro V hV
                have HV := hid hV
                clear hV b0 b1 cf cl q0
                have b0 := cell_of_blk HV.out.box 0
                simp only [Ins.cs, List.getElem?_toArray, List.getElem?_cons_zero, List.getElem?_cons_succ] at b0
                have HO2 := hid HV.out.op
                dsimp only at HO2
                rw [show (t ++ [(fr, la)]).length = t.length + 1 by simp, blkCells_snoc] at HO2
                have cl : V.cell? ⟨g, t.length * 2 + 1, none⟩ = some (.int .i64 (la : Int)) := (HO2.out.cellAt (t.length * 2 + 1) (by have := blkCells_len t; omega)).trans (by have hl2 := blkCells_len t; rw [List.getElem?_append_right (by omega), hl2, show t.length * 2 + 1 - t.length * 2 = 1 by omega]; rfl)
                go_still_tail 9, (by kernel_rfl)
                go_wp2_with (go_at_call 74; go_must (refine (join_at 20 la k w.heap.size n w.heap.size n (ms.set k (-1)) _ HOUT.out HV.out.ms.drew HL2.out.2 HL2.out.1 hlt HLA.out).mono ?_; rintro e w' ⟨rfl, hj1, hj2⟩; have HJ := hid (HV.out.joined (by simp) HNE.out (bdrew (bid V)) hj1 hj2); clear hj1 hj2; have d0 := HJ.out.box; have HO3 := hid HJ.out.row; have d1 := HO3.out.cellAt (t.length * 2 + 1) (by omega); have d2 := HO3.out.frozenAt (t.length * 2 + 1); dsimp only at d0; rw [blkCells_snoc, List.getElem?_append_right (by rw [blkCells_len]; omega), blkCells_len, show t.length * 2 + 1 - t.length * 2 = 1 by omega] at d1; simp only [List.getElem?_cons_succ, List.getElem?_cons_zero] at d1))
                exact ⟨⟨k + 1, _, by omega, by go_num, HJ.out.popped HX.out hlt HPI.out HPJ.out HOUT.out rfl rfl rfl HF.out (show (20 : Int) ≠ 19 by decide)⟩, by simp [intOf]; omega⟩
              · go_wp2
                go_quiet ((go_at_call 73; exact quiet_mine (fits_any _ _ _ HOUT.out)))
                go_upto_region 19 with fail
                refine wp_rename (fun V => MatesMid w w.heap.size n k ⟨22, ia, ib, ic, iN⟩ ⟨ms, t ++ [(fr, la)]⟩ (.slice (some ⟨g, 0, none⟩) (t.length + 1) cap) wr.heap.size V) (HW.out.drewN nq) ?_
                intro V hV
                have HV := hid hV
                clear hV b0 b1 cf cl q0
                have b0 := cell_of_blk HV.out.box 0
                simp only [Ins.cs, List.getElem?_toArray, List.getElem?_cons_zero, List.getElem?_cons_succ] at b0
                have HO2 := hid HV.out.op
                dsimp only at HO2
                rw [show (t ++ [(fr, la)]).length = t.length + 1 by simp, blkCells_snoc] at HO2
                have cl : V.cell? ⟨g, t.length * 2 + 1, none⟩ = some (.int .i64 (la : Int)) := (HO2.out.cellAt (t.length * 2 + 1) (by have := blkCells_len t; omega)).trans (by have hl2 := blkCells_len t; rw [List.getElem?_append_right (by omega), hl2, show t.length * 2 + 1 - t.length * 2 = 1 by omega]; rfl)
                go_still_tail 9, (by kernel_rfl)
                go_wp2_with (go_at_call 74; go_must (refine (join_at 22 la k w.heap.size n w.heap.size n (ms.set k (-1)) _ HOUT.out HV.out.ms.drew HL2.out.2 HL2.out.1 hlt HLA.out).mono ?_; rintro e w' ⟨rfl, hj1, hj2⟩; have HJ := hid (HV.out.joined (by simp) HNE.out (bdrew (bid V)) hj1 hj2); clear hj1 hj2; have d0 := HJ.out.box; have HO3 := hid HJ.out.row; have d1 := HO3.out.cellAt (t.length * 2 + 1) (by omega); have d2 := HO3.out.frozenAt (t.length * 2 + 1); dsimp only at d0; rw [blkCells_snoc, List.getElem?_append_right (by rw [blkCells_len]; omega), blkCells_len, show t.length * 2 + 1 - t.length * 2 = 1 by omega] at d1; simp only [List.getElem?_cons_succ, List.getElem?_cons_zero] at d1))
                exact ⟨⟨k + 1, _, by omega, by go_num, HJ.out.popped HX.out hlt HPI.out HPJ.out HOUT.out rfl rfl rfl HF.out (show (22 : Int) ≠ 19 by decide)⟩, by simp [intOf]; omega⟩
              · go_wp2
                go_quiet ((go_at_call 73; exact quiet_mine (fits_any _ _ _ HOUT.out)))
                go_upto_region 19 with fail
                refine wp_rename (fun V => MatesMid w w.heap.size n k ⟨14, ia, ib, ic, iN⟩ ⟨ms, t ++ [(fr, la)]⟩ (.slice (some ⟨g, 0, none⟩) (t.length + 1) cap) wr.heap.size V) (HW.out.drewN nq) ?_
                intro V hV
                have HV := hid hV
                clear hV b0 b1 cf cl q0
                have b0 := cell_of_blk HV.out.box 0
                simp only [Ins.cs, List.getElem?_toArray, List.getElem?_cons_zero, List.getElem?_cons_succ] at b0
                have HO2 := hid HV.out.op
                dsimp only at HO2
                rw [show (t ++ [(fr, la)]).length = t.length + 1 by simp, blkCells_snoc] at HO2
                have cl : V.cell? ⟨g, t.length * 2 + 1, none⟩ = some (.int .i64 (la : Int)) := (HO2.out.cellAt (t.length * 2 + 1) (by have := blkCells_len t; omega)).trans (by have hl2 := blkCells_len t; rw [List.getElem?_append_right (by omega), hl2, show t.length * 2 + 1 - t.length * 2 = 1 by omega]; rfl)
                go_still_tail 9, (by kernel_rfl)
                go_wp2_with (go_at_call 74; go_must (refine (join_at 14 la k w.heap.size n w.heap.size n (ms.set k (-1)) _ HOUT.out HV.out.ms.drew HL2.out.2 HL2.out.1 hlt HLA.out).mono ?_; rintro e w' ⟨rfl, hj1, hj2⟩; have HJ := hid (HV.out.joined (by simp) HNE.out (bdrew (bid V)) hj1 hj2); clear hj1 hj2; have d0 := HJ.out.box; have HO3 := hid HJ.out.row; have d1 := HO3.out.cellAt (t.length * 2 + 1) (by omega); have d2 := HO3.out.frozenAt (t.length * 2 + 1); dsimp only at d0; rw [blkCells_snoc, List.getElem?_append_right (by rw [blkCells_len]; omega), blkCells_len, show t.length * 2 + 1 - t.length * 2 = 1 by omega] at d1; simp only [List.getElem?_cons_succ, List.getElem?_cons_zero] at d1))
                exact ⟨⟨k + 1, _, by omega, by go_num, HJ.out.popped HX.out hlt HPI.out HPJ.out HOUT.out rfl rfl rfl HF.out (show (14 : Int) ≠ 19 by decide)⟩, by simp [intOf]; omega⟩
        · have hout : isOut op = false := by simpa using hout
          have HP := hid (HW.out.other HX.out hlt HPI.out hin hout)
          have n1 := of_decide_eq_false hin
          have n2 := of_decide_eq_false hout
          have e1 : (op == 18) = false := by simp; omega
          have e2 : (op == 21) = false := by simp; omega
          have e3 : (op == 13) = false := by simp; omega
          have e4 : (op == 19) = false := by simp; omega
          have e5 : (op == 20) = false := by simp; omega
          have e6 : (op == 22) = false := by simp; omega
          have e7 : (op == 14) = false := by simp; omega
          clear n1 n2 hin hout
          go_wp2
          go_roundw
          case rel => exact ⟨k + 1, _, by omega, by go_num, HP.out⟩
          case measure => simp [intOf]; omega
    case neg =>
      obtain rfl : k = n := by omega
      have HE := hid (mgo_end HX.out.go)
      obtain ⟨ms, st⟩ := s
      rcases nil_or_snoc st with rfl | ⟨t, ⟨fr, la⟩, rfl⟩
      · obtain ⟨va, vc, rfl⟩ : ∃ va vc, u5 = .slice va 0 vc := by
          rcases HX.out.op.2 with ⟨e, _⟩ | ⟨g, cap, cur, e, _⟩
          · exact ⟨_, _, e⟩
          · exact ⟨_, _, e⟩
        have HP : Hid (MatesRet (opsOf ps) w (.returned (.tuple #[.slice (some ⟨w.heap.size, 0, none⟩) k k, .int .i64 (-1)])) wr) := hid (by
          have hm := HX.out.ms
          have hl := HX.out.inv.len
          dsimp only at hm hl
          unfold MatesRet
          rw [HE.out]
          refine ⟨some ⟨w.heap.size, 0, none⟩, k, by rw [← hl]; rfl, ?_, fun x hx => by cases hx; exact Nat.le_refl _, HX.out.below⟩
          refine ⟨rfl, .inr ⟨_, rfl, fun j hj => ?_⟩⟩
          rw [add_at, Nat.zero_add]
          exact hm.cell hj)
        go_wp2
        go_ret2
        exact HP.out
      · have HP : Hid (∀ q, MatesRet (opsOf ps) w (.returned (.tuple #[.slice none 0 0, .int .i64 (fr : Int)])) (wr.drewN q)) := hid fun q => MatesRet.no (by rw [HE.out]; simp [mend]) (bdrewN HX.out.below)
        have HO := hid HX.out.op
        dsimp only at HO
        rw [show (t ++ [(fr, la)]).length = t.length + 1 by simp, blkCells_snoc] at HO
        obtain ⟨g, cap, hv, -, -⟩ := World.ownsRow.form HO.out (by omega)
        subst hv
        have hl2 := blkCells_len t
        have cf : wr.cell? ⟨g, t.length * 2, none⟩ = some (.int .i64 (fr : Int)) := (HO.out.cellAt (t.length * 2) (by omega)).trans (by rw [List.getElem?_append_right (by omega), hl2, Nat.sub_self]; rfl)
        have j3 : (0 : Int) ≤ (t.length : Int) := by omega
        have j5 : (t.length : Int) < (t.length : Int) + 1 := by omega
        have j4 : (t.length : Int) ≤ 100000 := by have := HX.out.inv.few; dsimp only at this; simp at this; omega
        clear hl2
        go_wp2
        go_quiet (fail)
        go_wp2
        go_ret2
        exact HP.out _

end Go.Proofs.YtblalejegjieaaaGreatDoor
