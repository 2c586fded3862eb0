/-
  The document's own Mates.
-/
import Derived.Test.YtblalejegjieaaaGreatDoorMOld
namespace Go.Proofs.YtblalejegjieaaaGreatDoor
open Go.RowKit
set_option linter.unusedVariables false

/-- The last ones of the open blocks, as cells. -/
def topCells (l : List (Nat × Nat)) : List Value := l.map fun p => .int .i64 (p.2 : Int)
theorem topCells_len (l : List (Nat × Nat)) : (topCells l).length = l.length * 1 := by simp [topCells]
theorem topCells_snoc (l : List (Nat × Nat)) (x y : Nat) : topCells (l ++ [(x, y)]) = topCells l ++ [.int .i64 (y : Int)] := by simp [topCells]

/-- The state of the loop ahead of round k. -/
structure RMatesAt (ps : List Ins) (w : World) (gm n k : Nat) (s : MSt) (v : Value) (wr : World) : Prop where
  ms : Ints 3 wr w.heap.size gm n s.ms
  op : wr.ownsRow w.heap.size 3 1 v s.op.length (topCells s.op)
  ne : v.ownBlock ≠ some gm
  below : Below w.heap.size w wr
  inv : MInv n k s
  old : MOld (opsOf ps) k s
  go : mgo (opsOf ps) (n - k) k s = matesOf (opsOf ps)

/-- Behind the first statement of a round. -/
structure RMid (w : World) (gm n k : Nat) (s : MSt) (v : Value) (wr : World) : Prop where
  ms : Ints 3 wr w.heap.size gm n (s.ms.set k (-1))
  op : wr.ownsRow w.heap.size 3 1 v s.op.length (topCells s.op)
  below : Below w.heap.size w wr

theorem RMid.pushed {ps : List Ins} {w wr W w' : World} {gm n k : Nat} {i : Ins} {s : MSt} {v v' : Value} {o : Obj} (h : RMid w gm n k s v W) (hx : RMatesAt ps w gm n k s v wr) (hk : k < n) (hp : ps[k]? = some i) (hin : isIn i.op = true)
    (hown : w'.ownsRow w.heap.size 3 1 v' (s.op.length + 1) (topCells s.op ++ [.int .i64 (k : Int)])) (hg : (W.alloc o).grownBy w' v.ownBlock) (hat : v'.ownBlock = v.ownBlock ∨ v'.ownBlock = some (W.alloc o).heap.size) :
    RMatesAt ps w gm n (k + 1) ⟨s.ms.set k (-1), s.op ++ [(k, k)]⟩ v' w' := by
  have hs : mstep (opsOf ps) k s = some ⟨s.ms.set k (-1), s.op ++ [(k, k)]⟩ := by
    unfold mstep
    rw [opsOf_at hp, if_pos hin]
  have hlt := h.ms.lt.2
  refine ⟨(h.ms.alloc o).kept (S := fun b => v.ownBlock = some b) ((Wrote.refl _ _).grown hg fun _ h _ => h) hx.ne, ?_, ?_, ?_, hx.inv.step hs, hx.old.step hx.inv hk hs, mgo_yes hx.go hk hs⟩
  · rw [topCells_snoc, List.length_append]
    exact hown
  · rcases hat with e | e
    · rw [e]; exact hx.ne
    · rw [e]
      intro e'
      simp only [size_alloc1, Option.some.injEq] at e'
      omega
  · exact (bnew h.below o).grown hg (bnew h.below o).size fun j hj => (h.op.lt j hj).1
theorem RMid.other {ps : List Ins} {w wr W : World} {gm n k : Nat} {i : Ins} {s : MSt} {v : Value} (h : RMid w gm n k s v W) (hx : RMatesAt ps w gm n k s v wr) (hk : k < n) (hp : ps[k]? = some i) (hin : isIn i.op = false) (hout : isOut i.op = false) :
    RMatesAt ps w gm n (k + 1) ⟨s.ms.set k (-1), s.op⟩ v W := by
  have hs : mstep (opsOf ps) k s = some ⟨s.ms.set k (-1), s.op⟩ := by
    unfold mstep
    rw [opsOf_at hp, if_neg (by simp [hin]), if_neg (by simp [hout])]
  exact ⟨h.ms, h.op, hx.ne, h.below, hx.inv.step hs, hx.old.step hx.inv hk hs, mgo_yes hx.go hk hs⟩

/-- Behind the joining: some stores into the mates. -/
structure RJoin (w : World) (gm n : Nat) (ms' : List Int) (g d cap : Nat) (xs : List Value) (wr : World) : Prop where
  ms : Ints 3 wr w.heap.size gm n ms'
  op : wr.ownsRow w.heap.size 3 1 (.slice (some ⟨g, 0, none⟩) (d + 1) cap) (d + 1) xs
  below : Below w.heap.size w wr
theorem RJoin.store {w wr : World} {gm n : Nat} {ms' : List Int} {g d cap : Nat} {xs : List Value} (h : RJoin w gm n ms' g d cap xs wr) (hne : g ≠ gm) (hB : w.heap.size ≤ gm) (j : Nat) (v : Int) :
    RJoin w gm n (ms'.set j v) g d cap xs (wr.setCell ⟨gm, j, none⟩ (.int .i64 v)) :=
  ⟨h.ms.store j v, ownsRow_setCell_other h.op (by simpa [Value.ownBlock] using hne) _, h.below.setCell hB _⟩
theorem RJoin.popped {ps : List Ins} {w wr w' : World} {gm n k g d cap fr la : Nat} {i j : Ins} {s : MSt} {v : Value} {t : List (Nat × Nat)} (h : RJoin w gm n (mjoin (s.ms.set k (-1)) i.op la k) g d cap (topCells s.op) w') (hx : RMatesAt ps w gm n k s v wr) (hne : g ≠ gm) (hk : k < n)
    (hp : ps[k]? = some i) (hj : ps[la]? = some j) (hout : isOut i.op = true) (hs : s.op = t ++ [(fr, la)]) (hd : t.length = d) (hf : fitsB i.op j.op = true) (h19 : i.op ≠ 19) :
    RMatesAt ps w gm n (k + 1) ⟨mjoin (s.ms.set k (-1)) i.op la k, t⟩ (.slice (some ⟨g, 0, none⟩) d cap) w' := by
  have hst := mstep_fit hp hj hout hs hf
  rw [if_neg h19] at hst
  subst hd
  refine ⟨h.ms, ?_, by simp [Value.ownBlock, hne], h.below, hx.inv.step hst, hx.old.step hx.inv hk hst, mgo_yes hx.go hk hst⟩
  refine ownsRow_pop (last := [.int .i64 (la : Int)]) (topCells_len t) ?_
  have := h.op
  rw [hs, topCells_snoc] at this
  exact this
theorem RJoin.turned {ps : List Ins} {w wr w' : World} {gm n k g d cap fr la : Nat} {i j : Ins} {s : MSt} {v : Value} {t : List (Nat × Nat)} (h : RJoin w gm n (mjoin (s.ms.set k (-1)) i.op la k) g d cap (topCells s.op) w') (hx : RMatesAt ps w gm n k s v wr) (hne : g ≠ gm) (hB : w.heap.size ≤ g) (hk : k < n)
    (hp : ps[k]? = some i) (hj : ps[la]? = some j) (hout : isOut i.op = true) (hs : s.op = t ++ [(fr, la)]) (hd : t.length = d) (hf : fitsB i.op j.op = true) (h19 : i.op = 19) :
    RMatesAt ps w gm n (k + 1) ⟨mjoin (s.ms.set k (-1)) i.op la k, t ++ [(fr, k)]⟩ (.slice (some ⟨g, 0, none⟩) (d + 1) cap) (w'.setCell ⟨g, d, none⟩ (.int .i64 (k : Int))) := by
  have hst := mstep_fit hp hj hout hs hf
  rw [if_pos h19] at hst
  subst hd
  refine ⟨h.ms.far (by exact hne) _, ?_, by simp [Value.ownBlock, hne], h.below.setCell hB _, hx.inv.step hst, hx.old.step hx.inv hk hst, mgo_yes hx.go hk hst⟩
  have h1 := (World.ownsRow.stored h.op t.length (.int .i64 (k : Int))).1
  rw [hs, topCells_snoc] at h1
  rw [topCells_snoc, List.length_append]
  have e : (topCells t ++ [Value.int .i64 (la : Int)]).set t.length (.int .i64 (k : Int)) = topCells t ++ [.int .i64 (k : Int)] := by
    have hl : (topCells t).length = t.length := by simp [topCells]
    rw [List.set_append_right _ _ (by omega), hl, Nat.sub_self]
    rfl
  rw [e] at h1
  exact h1

set_option maxRecDepth 100000 in
set_option maxHeartbeats 8000000 in
theorem refMates_any (a : Option Addr) (n c : Nat) (ps : List Ins) (w : World) (hr : InsRow w a n ps) (hn : n ≤ 100000) :
    Calls Tryz.prog 52 #[.slice a n c] w (MatesRet (opsOf ps) w) := by
  obtain ⟨i0, hi, hz0, hz1, hz2⟩ := info_parts infoInt
  have E1 : Hid ((n : Int) = ((n : Nat) : Int)) := hid rfl
  have E2 : Hid (i0.bytes * n ≤ 281474976710656) := hid (by rw [hz2]; omega)
  have E3 : Hid (n ≤ maxLen) := hid (by unfold maxLen; omega)
  have HR := hid hr
  clear hr
  go_enter Tryz.func52, Tryz.ntmps52
  go_wp2_with (at_make; refine wpList_make_full _ rfl _ _ 31 rfl w.heap.size 3 i0 (.int .i64 0) 1 Tryz.underlying31 hi hz0 hz1 .i64 .i64 _ _ n rfl rfl E1.out E1.out E2.out E3.out (Nat.le_refl _) ?_; intro w1 hown hg1; have HI := hid (Ints.made hown); clear hown)
  have HB1 : Hid (Below w.heap.size w w1) := hid ((Below.refl _ _).grown hg1 (Nat.le_refl _) (by simp))
  have HGM := hid HI.out.lt
  clear hg1
  have HX : Hid (RMatesAt ps w w.heap.size n 0 ⟨List.replicate n 0, []⟩ (.slice none 0 0) w1) := hid ⟨HI.out, World.ownsRow_nil _ _ _ _, by simp [Value.ownBlock], HB1.out, ⟨by simp, by simp, by simp⟩, MOld.start _ _, by
    have hl : (opsOf ps).length = n := by rw [← HR.out.cnt]; simp [opsOf]
    unfold matesOf
    rw [hl]
    rfl⟩
  clear HI HB1
  go_loopw [5, 6] (fun v i wr => ∃ (k : Nat) (s : MSt), k ≤ n ∧ i = .int .i64 k ∧ RMatesAt ps w w.heap.size n k s v wr) (fun _ i _ => n - (intOf i).toNat)
  case atStart => exact ⟨0, _, Nat.zero_le _, rfl, HX.out⟩
  case round =>
    clear HX
    obtain ⟨k, s, hk, rfl, hx⟩ := hrel
    have HX := hid hx
    clear hx
    by_cases hlt : k < n
    case pos =>
      obtain ⟨b, off, ha, hb, hps⟩ := HR.out.at (by omega)
      subst ha
      obtain ⟨⟨op, ia, ib, ic, iN⟩, hpi⟩ : ∃ i, ps[k]? = some i := ⟨_, List.getElem?_eq_getElem (by rw [HR.out.cnt]; exact hlt)⟩
      have hin := (hps k _ hpi).keep (HX.out.below.block b hb)
      have p0 := hin.c0
      dsimp only at p0
      clear hin
      have hml := HX.out.inv.len
      have hkl : k < s.ms.length := by omega
      have ck := HX.out.ms.cell hkl
      have fk := HX.out.ms.frozen k
      have HPS := hid hps
      have HB := hid hb
      have HPI := hid hpi
      clear hpi hps hb
      have i1 : (0 : Int) ≤ (k : Int) := by omega
      have i2 : (k : Int) < (n : Int) := by omega
      have hc := HGM.out.2
      go_upto_region 7 with fail
      refine wp_rename (fun W => RMid w w.heap.size n k s u5 W) ⟨HX.out.ms.store k (-1), ownsRow_setCell_other HX.out.op HX.out.ne _, HX.out.below.setCell (Nat.le_refl _) _⟩ ?_
      intro W hW
      have HW := hid hW
      clear hW ck fk p0
      have p0 := ((HPS.out k _ HPI.out).keep (HW.out.below.block b HB.out)).c0
      dsimp only at p0
      obtain ⟨ms, st⟩ := s
      have NEW := hid (cell_one_new W (.int .i64 (k : Int)) 3)
      have hfew := HX.out.inv.few
      have E6 : Hid (st.length + 1 ≤ maxLen) := hid (by unfold maxLen; dsimp only at hfew; omega)
      have E7 : Hid ((st.length + 1) * 8 ≤ 140737488355328) := hid (by dsimp only at hfew; omega)
      have E8 : Hid (w.heap.size ≤ (W.alloc (.cells #[.int .i64 (k : Int)] 3)).heap.size) := hid (bnew HW.out.below _).size
      have E9 : Hid (∀ u ∈ [Value.int .i64 (k : Int)], u.oneCell' = true) := hid (by intro u hu; simp at hu; subst hu; rfl)
      clear hfew
      rcases nil_or_snoc st with rfl | ⟨t, ⟨fr, la⟩, rfl⟩
      · obtain ⟨va, vc, rfl⟩ : ∃ va vc, u5 = .slice va 0 vc := by
          rcases HW.out.op.2 with ⟨e, _⟩ | ⟨g, cap, cur, e, _⟩
          · exact ⟨_, _, e⟩
          · exact ⟨_, _, e⟩
        by_cases hin : isIn op = true
        · have HIN := hid hin
          have hin' := of_decide_eq_true hin
          clear hin
          rcases hin' with rfl | rfl | rfl
          all_goals
            go_wp2_with (at_builtin; go_must (refine wpList_append_own_at _ rfl _ _ 31 rfl w.heap.size 3 i0 (.int .i64 0) 1 8 Tryz.underlying31 hi hz0 hz1 hz2 rfl (by decide) (.slice va 0 vc) 0 (topCells []) rfl (HW.out.op.alloc _) ⟨W.heap.size, 0, none⟩ 1 1 [.int .i64 (k : Int)] rfl rfl NEW.out E9.out E6.out E7.out E8.out ?_; intro v' w' hown' hg' _ hat'; have HP := hid (HW.out.pushed HX.out hlt HPI.out HIN.out hown' hg' hat'); clear hown' hg' hat'))
            first
              | exact ⟨⟨k + 1, _, by omega, by go_num, HP.out⟩, by simp [intOf]; omega⟩
              | (go_roundw
                 case rel => exact ⟨k + 1, _, by omega, by go_num, HP.out⟩
                 case measure => simp [intOf]; omega)
        · have hin : isIn op = false := by simpa using hin
          by_cases hout : isOut op = true
          · have HOUT := hid hout
            have hout' := of_decide_eq_true hout
            clear hin hout
            have HP : Hid (MatesRet (opsOf ps) w (.returned (.tuple #[.slice none 0 0, .int .i64 (k : Int)])) W) := hid (MatesRet.no (mgo_no HX.out.go hlt (mstep_empty HPI.out HOUT.out rfl)) HW.out.below)
            rcases hout' with rfl | rfl | rfl | rfl
            all_goals
              go_wp2
              go_ret2
              exact HP.out
          · have hout : isOut op = false := by simpa using hout
            have HP := hid (HW.out.other HX.out hlt HPI.out hin hout)
            have n1 := of_decide_eq_false hin
            have n2 := of_decide_eq_false hout
            have e1 : (op == 18) = false := by simp; omega
            have e2 : (op == 21) = false := by simp; omega
            have e3 : (op == 13) = false := by simp; omega
            have e4 : (op == 19) = false := by simp; omega
            have e5 : (op == 20) = false := by simp; omega
            have e6 : (op == 22) = false := by simp; omega
            have e7 : (op == 14) = false := by simp; omega
            clear n1 n2 hin hout
            go_wp2
            first
              | exact ⟨⟨k + 1, _, by omega, by go_num, HP.out⟩, by simp [intOf]; omega⟩
              | (go_roundw
                 case rel => exact ⟨k + 1, _, by omega, by go_num, HP.out⟩
                 case measure => simp [intOf]; omega)
      · have hl1 : (t ++ [(fr, la)]).length = t.length + 1 := by simp
        have HO := hid HW.out.op
        dsimp only at HO
        rw [hl1, topCells_snoc] at HO
        obtain ⟨g, cap, hv, -, -⟩ := World.ownsRow.form HO.out (by omega)
        subst hv
        have hne : g ≠ w.heap.size := fun e => HX.out.ne (by simp [Value.ownBlock, e])
        have HNE := hid hne
        have hl2 : (topCells t).length = t.length := by simp [topCells]
        have cl : W.cell? ⟨g, t.length, none⟩ = some (.int .i64 (la : Int)) := (HO.out.cellAt t.length (by omega)).trans (by rw [List.getElem?_append_right (by omega), hl2, Nat.sub_self]; rfl)
        have fl := HO.out.frozenAt t.length
        have hla := (HX.out.inv.lt (fr, la) (by simp)).2
        dsimp only at hla
        obtain ⟨⟨jop, ja, jb, jc, jN⟩, hpj⟩ : ∃ j, ps[la]? = some j := ⟨_, List.getElem?_eq_getElem (by rw [HR.out.cnt]; omega)⟩
        have q0 := ((HPS.out la _ hpj).keep (HW.out.below.block b HB.out)).c0
        dsimp only at q0
        have HPJ := hid hpj
        dsimp only at hml
        have hkl2 : k < (ms.set k (-1)).length := by simp; omega
        have hll2 : la < (ms.set k (-1)).length := by simp; omega
        have mk := HW.out.ms.cell hkl2
        have mfk := HW.out.ms.frozen k
        have ml := HW.out.ms.cell hll2
        have mfl := HW.out.ms.frozen la
        have j1 : (0 : Int) ≤ (la : Int) := by omega
        have j2 : (la : Int) < (n : Int) := by omega
        have j3 : (0 : Int) ≤ (t.length : Int) := by omega
        have j5 : (t.length : Int) < (t.length : Int) + 1 := by omega
        have j4 : (t.length : Int) ≤ 100000 := by have := HX.out.inv.few; dsimp only at this; omega
        have j6 : t.length ≤ cap := by
          rcases HO.out.2 with ⟨e, _⟩ | ⟨g', cap', cur, e, _, _, e2, _⟩
          · cases e
          · cases e; omega
        have j7 : (t.length : Int) ≤ (cap : Int) := by omega
        have n1 : la ≠ k := by omega
        have n2 : k ≠ la := by omega
        have n3 : g ≠ w.heap.size := hne
        have n4 : w.heap.size ≠ g := fun e => hne e.symm
        have HOG := hid (HO.out.lt g rfl).1
        rw [show (t ++ [(fr, la)]).length = t.length + 1 by simp] at E6 E7
        have HJ0 : Hid (RJoin w w.heap.size n (ms.set k (-1)) g t.length cap (topCells (t ++ [(fr, la)])) W) := hid ⟨HW.out.ms, by rw [topCells_snoc]; exact HO.out, HW.out.below⟩
        clear hpj hl2 hla hne hml hkl2 hll2
        by_cases hin : isIn op = true
        · have HIN := hid hin
          have hin' := of_decide_eq_true hin
          clear hin
          rcases hin' with rfl | rfl | rfl
          all_goals
            go_wp2_with (at_builtin; go_must (refine wpList_append_own_at _ rfl _ _ 31 rfl w.heap.size 3 i0 (.int .i64 0) 1 8 Tryz.underlying31 hi hz0 hz1 hz2 rfl (by decide) (.slice (some ⟨g, 0, none⟩) (t.length + 1) cap) (t.length + 1) (topCells (t ++ [(fr, la)])) rfl (HJ0.out.op.alloc _) ⟨W.heap.size, 0, none⟩ 1 1 [.int .i64 (k : Int)] rfl rfl NEW.out E9.out E6.out E7.out E8.out ?_; intro v' w' hown' hg' _ hat'; have HP := hid (HW.out.pushed HX.out hlt HPI.out HIN.out (by dsimp only; rw [List.length_append]; exact hown') hg' hat'); clear hown' hg' hat'))
            first
              | exact ⟨⟨k + 1, _, by omega, by go_num, HP.out⟩, by simp [intOf]; omega⟩
              | (go_roundw
                 case rel => exact ⟨k + 1, _, by omega, by go_num, HP.out⟩
                 case measure => simp [intOf]; omega)
        · have hin : isIn op = false := by simpa using hin
          by_cases hout : isOut op = true
          · have HOUT := hid hout
            have hout' := of_decide_eq_true hout
            clear hin hout
            have HSW22 : Hid (mjoin (ms.set k (-1)) 22 la k = ((ms.set k (-1)).set la (k : Int)).set k (la : Int)) := hid (by
              show ((ms.set k (-1)).set k (la : Int)).set la (k : Int) = _
              rw [List.set_comm _ _ n2])
            have HSW14 : Hid (mjoin (ms.set k (-1)) 14 la k = ((ms.set k (-1)).set la (k : Int)).set k (la : Int)) := hid (by
              show ((ms.set k (-1)).set k (la : Int)).set la (k : Int) = _
              rw [List.set_comm _ _ n2])
            rcases hout' with rfl | rfl | rfl | rfl
            · cases h18 : (jop == 18)
              · have HP : Hid (MatesRet (opsOf ps) w (.returned (.tuple #[.slice none 0 0, .int .i64 (k : Int)])) W) := hid (MatesRet.no (mgo_no HX.out.go hlt (mstep_unfit HPI.out HPJ.out HOUT.out rfl (show (jop == 18) = false from h18))) HW.out.below)
                go_wp2
                go_ret2
                exact HP.out
              · have HF : Hid (fitsB 19 jop = true) := hid (show (jop == 18) = true from h18)
                go_wp2
                exact ⟨⟨k + 1, _, by omega, by go_num, (show RJoin w w.heap.size n (mjoin (ms.set k (-1)) 19 la k) g t.length cap (topCells (t ++ [(fr, la)])) _ from HJ0.out.store HNE.out (Nat.le_refl _) la (k : Int)).turned HX.out HNE.out HOG.out hlt HPI.out HPJ.out HOUT.out rfl rfl HF.out rfl⟩, by simp [intOf]; omega⟩
            · cases h18 : (jop == 18)
              · cases h19 : (jop == 19)
                · have HP : Hid (MatesRet (opsOf ps) w (.returned (.tuple #[.slice none 0 0, .int .i64 (k : Int)])) W) := hid (MatesRet.no (mgo_no HX.out.go hlt (mstep_unfit HPI.out HPJ.out HOUT.out rfl (show ((jop == 19) || (jop == 18)) = false by rw [h18, h19]; rfl))) HW.out.below)
                  go_wp2
                  go_ret2
                  exact HP.out
                · have HF : Hid (fitsB 20 jop = true) := hid (show ((jop == 19) || (jop == 18)) = true by rw [h18, h19]; rfl)
                  go_wp2
                  exact ⟨⟨k + 1, _, by omega, by go_num, (show RJoin w w.heap.size n (mjoin (ms.set k (-1)) 20 la k) g t.length cap (topCells (t ++ [(fr, la)])) _ from HJ0.out.store HNE.out (Nat.le_refl _) la (k : Int)).popped HX.out HNE.out hlt HPI.out HPJ.out HOUT.out rfl rfl HF.out (show (20 : Int) ≠ 19 by decide)⟩, by simp [intOf]; omega⟩
              · have HF : Hid (fitsB 20 jop = true) := hid (show ((jop == 19) || (jop == 18)) = true by rw [h18]; simp)
                go_wp2
                exact ⟨⟨k + 1, _, by omega, by go_num, (show RJoin w w.heap.size n (mjoin (ms.set k (-1)) 20 la k) g t.length cap (topCells (t ++ [(fr, la)])) _ from HJ0.out.store HNE.out (Nat.le_refl _) la (k : Int)).popped HX.out HNE.out hlt HPI.out HPJ.out HOUT.out rfl rfl HF.out (show (20 : Int) ≠ 19 by decide)⟩, by simp [intOf]; omega⟩
            · cases h21 : (jop == 21)
              · cases h13 : (jop == 13)
                all_goals
                  have HP : Hid (MatesRet (opsOf ps) w (.returned (.tuple #[.slice none 0 0, .int .i64 (k : Int)])) W) := hid (MatesRet.no (mgo_no HX.out.go hlt (mstep_unfit HPI.out HPJ.out HOUT.out rfl (show (jop == 21) = false from h21))) HW.out.below)
                  go_wp2
                  go_ret2
                  exact HP.out
              · have HF : Hid (fitsB 22 jop = true) := hid (show (jop == 21) = true from h21)
                go_wp2
                exact ⟨⟨k + 1, _, by omega, by go_num, (show RJoin w w.heap.size n (mjoin (ms.set k (-1)) 22 la k) g t.length cap (topCells (t ++ [(fr, la)])) _ from by rw [HSW22.out]; exact (HJ0.out.store HNE.out (Nat.le_refl _) la (k : Int)).store HNE.out (Nat.le_refl _) k (la : Int)).popped HX.out HNE.out hlt HPI.out HPJ.out HOUT.out rfl rfl HF.out (show (22 : Int) ≠ 19 by decide)⟩, by simp [intOf]; omega⟩
            · cases h13 : (jop == 13)
              · cases h21 : (jop == 21)
                all_goals
                  have HP : Hid (MatesRet (opsOf ps) w (.returned (.tuple #[.slice none 0 0, .int .i64 (k : Int)])) W) := hid (MatesRet.no (mgo_no HX.out.go hlt (mstep_unfit HPI.out HPJ.out HOUT.out rfl (show (jop == 13) = false from h13))) HW.out.below)
                  go_wp2
                  go_ret2
                  exact HP.out
              · cases h21 : (jop == 21)
                all_goals
                  have HF : Hid (fitsB 14 jop = true) := hid (show (jop == 13) = true from h13)
                  go_wp2
                  exact ⟨⟨k + 1, _, by omega, by go_num, (show RJoin w w.heap.size n (mjoin (ms.set k (-1)) 14 la k) g t.length cap (topCells (t ++ [(fr, la)])) _ from by rw [HSW14.out]; exact (HJ0.out.store HNE.out (Nat.le_refl _) la (k : Int)).store HNE.out (Nat.le_refl _) k (la : Int)).popped HX.out HNE.out hlt HPI.out HPJ.out HOUT.out rfl rfl HF.out (show (14 : Int) ≠ 19 by decide)⟩, by simp [intOf]; omega⟩
          · have hout : isOut op = false := by simpa using hout
            have HP := hid (HW.out.other HX.out hlt HPI.out hin hout)
            have n1 := of_decide_eq_false hin
            have n2 := of_decide_eq_false hout
            have e1 : (op == 18) = false := by simp; omega
            have e2 : (op == 21) = false := by simp; omega
            have e3 : (op == 13) = false := by simp; omega
            have e4 : (op == 19) = false := by simp; omega
            have e5 : (op == 20) = false := by simp; omega
            have e6 : (op == 22) = false := by simp; omega
            have e7 : (op == 14) = false := by simp; omega
            clear n1 n2 hin hout
            go_wp2
            first
              | exact ⟨⟨k + 1, _, by omega, by go_num, HP.out⟩, by simp [intOf]; omega⟩
              | (go_roundw
                 case rel => exact ⟨k + 1, _, by omega, by go_num, HP.out⟩
                 case measure => simp [intOf]; omega)
    case neg =>
      obtain rfl : k = n := by omega
      have HE := hid (mgo_end HX.out.go)
      obtain ⟨ms, st⟩ := s
      rcases nil_or_snoc st with rfl | ⟨t, ⟨fr, la⟩, rfl⟩
      · obtain ⟨va, vc, rfl⟩ : ∃ va vc, u5 = .slice va 0 vc := by
          rcases HX.out.op.2 with ⟨e, _⟩ | ⟨g, cap, cur, e, _⟩
          · exact ⟨_, _, e⟩
          · exact ⟨_, _, e⟩
        have HP : Hid (MatesRet (opsOf ps) w (.returned (.tuple #[.slice (some ⟨w.heap.size, 0, none⟩) k k, .int .i64 (-1)])) wr) := hid (by
          have hm := HX.out.ms
          have hl := HX.out.inv.len
          dsimp only at hm hl
          unfold MatesRet
          rw [HE.out]
          refine ⟨some ⟨w.heap.size, 0, none⟩, k, by rw [← hl]; rfl, ?_, fun x hx => by cases hx; exact Nat.le_refl _, HX.out.below⟩
          refine ⟨rfl, .inr ⟨_, rfl, fun j hj => ?_⟩⟩
          rw [add_at, Nat.zero_add]
          exact hm.cell hj)
        go_wp2
        go_ret2
        exact HP.out
      · have HO := hid HX.out.op
        dsimp only at HO
        rw [show (t ++ [(fr, la)]).length = t.length + 1 by simp, topCells_snoc] at HO
        obtain ⟨g, cap, hv, -, -⟩ := World.ownsRow.form HO.out (by omega)
        subst hv
        have hl2 : (topCells t).length = t.length := by simp [topCells]
        have cl : wr.cell? ⟨g, t.length, none⟩ = some (.int .i64 (la : Int)) := (HO.out.cellAt t.length (by omega)).trans (by rw [List.getElem?_append_right (by omega), hl2, Nat.sub_self]; rfl)
        have hla := (HX.out.inv.lt (fr, la) (by simp)).2
        dsimp only at hla
        obtain ⟨b, off, ha, hb, hps⟩ := HR.out.at (by omega)
        subst ha
        obtain ⟨⟨jop, ja, jb, jc, jN⟩, hpj⟩ : ∃ j, ps[la]? = some j := ⟨_, List.getElem?_eq_getElem (by rw [HR.out.cnt]; omega)⟩
        have q0 := ((hps la _ hpj).keep (HX.out.below.block b hb)).c0
        dsimp only at q0
        have hop := opsOf_at hpj
        dsimp only at hop
        have htop := HX.out.old.top (fr, la) (by simp)
        dsimp only at htop
        rw [hop] at htop
        have j1 : (0 : Int) ≤ (la : Int) := by omega
        have j2 : (la : Int) < (k : Int) := by omega
        have j3 : (0 : Int) ≤ (t.length : Int) := by omega
        have j5 : (t.length : Int) < (t.length : Int) + 1 := by omega
        have j4 : (t.length : Int) ≤ 100000 := by have := HX.out.inv.few; dsimp only at this; simp at this; omega
        have HP : Hid (∀ q, q = fr → ∀ W, Below w.heap.size w W → MatesRet (opsOf ps) w (.returned (.tuple #[.slice none 0 0, .int .i64 (q : Int)])) W) := hid fun q hq W hW => MatesRet.no (by rw [HE.out]; subst hq; simp [mend]) hW
        have HLA := hid hla
        have HOP := hid hop
        have HHB := hid hb
        clear hl2 hpj hps hop hla hb
        rcases htop with ⟨e, h19⟩ | ⟨rfl, hfl, hfr⟩
        · have e19 : (jop == 19) = false := by simpa using h19
          have HFE := hid e.symm
          clear h19 e
          go_wp2
          go_ret2
          exact HP.out la HFE.out _ HX.out.below
        · have HFR := hid hfr
          have HFL := hid hfl
          have HLEN : Hid (ms.length = k) := hid HX.out.inv.len
          clear hfr hfl
          go_wp2
          go_loopw [11] (fun i wx => ∃ q : Nat, q ≤ fr ∧ i = .int .i64 q ∧ wx = wr) (fun i _ => fr - (intOf i).toNat)
          case atStart => exact ⟨0, Nat.zero_le _, rfl, rfl⟩
          case round =>
            obtain ⟨q, hq, rfl, rfl⟩ := hrel
            have hqk : q < k := by have := HLA.out; have := HFL.out; omega
            have cq := HX.out.ms.cell (i := q) (by rw [HLEN.out]; exact hqk)
            have i3 : (0 : Int) ≤ (q : Int) := by omega
            have i4 : (q : Int) < (la : Int) := by have := HFL.out; omega
            have i5 : (q : Int) < (k : Int) := by omega
            have HQ := hid hq
            have HQK := hid hqk
            clear hq hqk
            by_cases hv : ms.getD q 0 = (la : Int)
            · have HQF : Hid (q = fr) := hid (HX.out.old.one q fr HQK.out (by have := HLA.out; have := HFL.out; omega) (by dsimp only; rw [hv]; exact HFR.out.symm) (by dsimp only; rw [hv]; omega) (by dsimp only; rw [hv, Int.toNat_natCast]; exact HOP.out))
              rw [hv] at cq
              clear hv
              go_wp2
              go_ret2
              exact HP.out q HQF.out _ HX.out.below
            · have HQN : Hid (q ≠ fr) := hid (fun e => hv (by rw [e]; exact HFR.out))
              have hv' : (ms.getD q 0 == (la : Int)) = false := by simpa using hv
              generalize ms.getD q 0 = z at cq hv'
              clear hv
              go_wp2
              go_roundw
              case rel => exact ⟨q + 1, by have := HQ.out; have := HQN.out; omega, by go_num, by trivial⟩
              case measure => have := HQ.out; have := HQN.out; simp [intOf]; omega

end Go.Proofs.YtblalejegjieaaaGreatDoor
