/-
  Package check: where an instruction stands.
-/
import Derived.Test.YtblalejegjieaaaGreatDoorKCall
namespace Go.Proofs.YtblalejegjieaaaGreatDoor
open Go.RowKit
set_option linter.unusedVariables false

/-- What lies while it is looked at. -/
structure ArSt (w : World) (v : Value) (d : Std) (W : World) : Prop where
  box : W.heap[w.heap.size + 1]? = some (.cells #[v, .int .i64 d.hi, .bool d.lp] 107 (0, 0))
  res : W.heap[w.heap.size]? = some (.cells #[.slice none 0 0, .int .i64 0, .bool false] 107 (0, 0))
  own : OwnIns w.heap.size v d.op W
  ne : v.ownBlock ≠ some w.heap.size ∧ v.ownBlock ≠ some (w.heap.size + 1)
  below : Below w.heap.size w W
theorem ArSt.later {w W W' : World} {v : Value} {d : Std} (h : ArSt w v d W) (hb : Below W.heap.size W W') : ArSt w v d W' :=
  ⟨(hb.block _ (lt_of_block h.box)).trans h.box, (hb.block _ (lt_of_block h.res)).trans h.res, h.own.below hb, h.ne, bthen h.below hb⟩
theorem ArSt.new (w : World) : ArSt w (.slice none 0 0) ⟨[], 0, false⟩ ((w.alloc (.cells #[.slice none 0 0, .int .i64 0, .bool false] 107)).alloc (.cells #[.slice none 0 0, .int .i64 0, .bool false] 107)) := by
  refine ⟨?_, ?_, OwnIns.nil _ _, by simp [Value.ownBlock], bnew (bnew (bid w) _) _⟩
  · have := heap_alloc_new (w.alloc (.cells #[.slice none 0 0, .int .i64 0, .bool false] 107)) (.cells #[.slice none 0 0, .int .i64 0, .bool false] 107)
    rw [size_alloc1] at this
    exact this
  · rw [Below.heap_alloc _ _ _ (by simp)]
    exact heap_alloc_new _ _
/-- The stand's cells turned. -/
theorem ArSt.turned {w W : World} {v : Value} {d : Std} (h : ArSt w v d W) {hi : Int} : ArSt w v ⟨d.op, hi, d.lp⟩ (W.setCell ⟨w.heap.size + 1, 1, none⟩ (.int .i64 hi)) := by
  have hw : Wrote (fun b => b = w.heap.size + 1) W (W.setCell ⟨w.heap.size + 1, 1, none⟩ (.int .i64 hi)) := Wrote.setCell (S := fun b => b = w.heap.size + 1) (Wrote.refl _ W) (p := ⟨w.heap.size + 1, 1, none⟩) (fun _ => rfl) _
  refine ⟨blk_setCell h.box 1 _, (hw.block _ (lt_of_block h.res) (by omega)).trans h.res, h.own.kept hw (fun x hx e => h.ne.2 (by rw [hx, e])), h.ne, h.below.setCell (by dsimp only; omega) _⟩
theorem ArSt.looped {w W : World} {v : Value} {d : Std} (h : ArSt w v d W) {lp : Bool} : ArSt w v ⟨d.op, d.hi, lp⟩ (W.setCell ⟨w.heap.size + 1, 2, none⟩ (.bool lp)) := by
  have hw : Wrote (fun b => b = w.heap.size + 1) W (W.setCell ⟨w.heap.size + 1, 2, none⟩ (.bool lp)) := Wrote.setCell (S := fun b => b = w.heap.size + 1) (Wrote.refl _ W) (p := ⟨w.heap.size + 1, 2, none⟩) (fun _ => rfl) _
  refine ⟨blk_setCell h.box 2 _, (hw.block _ (lt_of_block h.res) (by omega)).trans h.res, h.own.kept hw (fun x hx e => h.ne.2 (by rw [hx, e])), h.ne, h.below.setCell (by dsimp only; omega) _⟩
theorem ArSt.grown {w W W1 : World} {v v' : Value} {d : Std} {l : List Ins} (h : ArSt w v d W) (ho : OwnIns w.heap.size v' l W1) (hat : v'.ownBlock = v.ownBlock ∨ v'.ownBlock = some (W.heap.size + 1)) (hw : Wrote (fun b => v.ownBlock = some b) W W1) :
    ArSt w v' ⟨l, d.hi, d.lp⟩ (W1.setCell ⟨w.heap.size + 1, 0, none⟩ v') := by
  have l1 := lt_of_block h.box
  have l0 := lt_of_block h.res
  have n0 : v'.ownBlock ≠ some w.heap.size ∧ v'.ownBlock ≠ some (w.heap.size + 1) := by
    rcases hat with e | e
    · rw [e]; exact h.ne
    · rw [e]
      exact ⟨fun q => by simp only [Option.some.injEq] at q; omega, fun q => by simp only [Option.some.injEq] at q; omega⟩
  have hw2 : Wrote (fun b => b = w.heap.size + 1) W1 (W1.setCell ⟨w.heap.size + 1, 0, none⟩ v') := Wrote.setCell (S := fun b => b = w.heap.size + 1) (Wrote.refl _ W1) (p := ⟨w.heap.size + 1, 0, none⟩) (fun _ => rfl) _
  have hbx : W1.heap[w.heap.size + 1]? = some (.cells #[v, .int .i64 d.hi, .bool d.lp] 107 (0, 0)) := (hw.block _ l1 h.ne.2).trans h.box
  refine ⟨blk_setCell hbx 0 _, ?_, ho.kept hw2 (fun x hx e => n0.2 (by rw [hx, e])), n0, ?_⟩
  · exact (hw2.block _ (Nat.lt_of_lt_of_le l0 hw.size) (by omega)).trans ((hw.block _ l0 h.ne.1).trans h.res)
  · exact ((h.below.trans (hw.below h.below.size fun j hj e => by have := (h.own.old e).1; omega))).setCell (by dsimp only; omega) _
theorem ArSt.facts {w W : World} {v : Value} {d : Std} (h : ArSt w v d W) : (W.cell? ⟨w.heap.size + 1, 0, none⟩ = some v ∧ W.cell? ⟨w.heap.size + 1, 1, none⟩ = some (.int .i64 d.hi) ∧ W.cell? ⟨w.heap.size + 1, 2, none⟩ = some (.bool d.lp)) ∧ (W.frozen? ⟨w.heap.size + 1, 0, none⟩ = false ∧ W.frozen? ⟨w.heap.size + 1, 1, none⟩ = false ∧ W.frozen? ⟨w.heap.size + 1, 2, none⟩ = false) :=
  ⟨⟨cell_of_blk h.box 0, cell_of_blk h.box 1, cell_of_blk h.box 2⟩, ⟨frozen_of_blk h.box 0, frozen_of_blk h.box 1, frozen_of_blk h.box 2⟩⟩

/-- The list behind a step. -/
def arList (o : Bool) (x : Ins) (s : Std) : List Ins := if (o && (x.op == 13)) = true then s.op ++ [x] else s.op
theorem arStep_0 {o : Bool} {x : Ins} {s : Std} (h : (arList o x s).length = 0) : arStep o x s = ⟨arList o x s, s.hi, s.lp⟩ := by unfold arStep; exact if_pos h
theorem arStep_13 {o : Bool} {x : Ins} {s : Std} (h : ¬ (arList o x s).length = 0) (h1 : x.op = 13) : arStep o x s = ⟨arList o x s, max s.hi x.a, s.lp⟩ := by unfold arStep; exact (if_neg h).trans (if_pos h1)
theorem arStep_21 {o : Bool} {x : Ins} {s : Std} (h : ¬ (arList o x s).length = 0) (h1 : x.op = 21) : arStep o x s = ⟨arList o x s, s.hi, s.lp || o⟩ := by unfold arStep; exact (if_neg h).trans ((if_neg (by omega)).trans (if_pos h1))
theorem arStep_x {o : Bool} {x : Ins} {s : Std} (h : ¬ (arList o x s).length = 0) (h1 : ¬ x.op = 13) (h2 : ¬ x.op = 21) : arStep o x s = ⟨arList o x s, s.hi, s.lp⟩ := by unfold arStep; exact (if_neg h).trans ((if_neg h1).trans (if_neg h2))
theorem arGo_cons (ms : List Int) (q : Nat) (x : Ins) (r : List Ins) (k : Nat) (s : Std) : arGo ms q (x :: r) k s = arGo ms q r (k + 1) (arStep (decide ((q : Int) < ms.getD k 0)) x s) := rfl
theorem arList_len (o : Bool) (x : Ins) (s : Std) : (arList o x s).length ≤ s.op.length + 1 := by unfold arList; split <;> simp

/-- What is handed back. -/
def ArRet (d : Std) (w : World) (e : Ending) (w' : World) : Prop := ∃ a cc, e = .returned (d.v a cc) ∧ InsRow w' a d.op.length d.op ∧ d.op.length ≤ 100000 ∧ Below w.heap.size w w'

set_option maxRecDepth 100000 in
set_option maxHeartbeats 4000000 in
theorem around_any (pa : Option Addr) (n c : Nat) (ps : List Ins) (ma : Option Addr) (mn mc : Nat) (ms : List Int) (q : Nat) (w : World) (hr : InsRow w pa n ps) (hm : IntRow w ma mn ms) (hn : n ≤ 500) (hnc : n ≤ c) (hcm : c ≤ maxLen) (hmn : n ≤ mn) (hmm : mn ≤ 1000) (hq : q ≤ n) :
    Calls Tryz.prog 61 #[.slice pa n c, .slice ma mn mc, .int .i64 (q : Int)] w (ArRet (aroundF ps ms q) w) := by
  obtain ⟨iI, hi, hz0, hz1, hz2⟩ := info_parts infoIns
  have HS := hid (ArSt.new w)
  have HR := hid hr
  have HM := hid hm
  clear hr hm
  unfold maxLen at hcm
  go_enter Tryz.func61, Tryz.ntmps61
  go_upto_region 2 with fail
  refine wp_rename (fun W => ArSt w (.slice none 0 0) ⟨[], 0, false⟩ W) HS.out ?_
  intro W hW
  have HW := hid hW
  clear hW HS
  go_wp2
  go_loopw [15] (fun i wr => ∃ (k : Nat) (v : Value) (d : Std), k ≤ q ∧ i = .int .i64 k ∧ aroundF ps ms q = arGo ms q ((ps.take q).drop k) k d ∧ d.op.length ≤ k ∧ ArSt w v d wr) (fun i _ => q - (intOf i).toNat)
  case atStart => exact ⟨0, _, _, Nat.zero_le _, rfl, rfl, Nat.le_refl _, HW.out⟩
  case round =>
    clear HW
    obtain ⟨k, v, d, hk, rfl, hgo, hdl, hst⟩ := hrel
    have HST := hid hst
    have HGO := hid hgo
    obtain ⟨va, vc, rfl, -⟩ := hst.own.shape
    clear hst hgo
    by_cases hlt : k < q
    · have hll : k < ps.length := by rw [HR.out.cnt]; omega
      obtain ⟨b, off, rfl, hbl, hcell⟩ := HR.out.at (by omega)
      have hI := (hcell k ps[k] (List.getElem?_eq_getElem hll)).keep (HST.out.below.block b hbl)
      have htl : (ps.take q)[k]? = some ps[k] := by rw [List.getElem?_take, if_pos hlt]; exact List.getElem?_eq_getElem hll
      have HD := hid (show (ps.take q).drop k = ps[k] :: (ps.take q).drop (k + 1) from by
        obtain ⟨h1, h2⟩ := List.getElem?_eq_some_iff.1 htl
        rw [← h2]
        exact List.drop_eq_getElem_cons h1)
      obtain ⟨mb, mo, rfl, hmb, hmc⟩ := HM.out.at (by omega)
      have hz := (World.cell?_of_block (a := ⟨mb, mo + k, none⟩) (HST.out.below.block mb hmb)).trans (hmc k (by omega))
      have HN := hid (show aroundF ps ms q = arGo ms q ((ps.take q).drop (k + 1)) (k + 1) (arStep (decide ((q : Int) < ms.getD k 0)) ps[k] d) by rw [HGO.out, HD.out]; rfl)
      generalize ms.getD k 0 = z at hz HN
      generalize ps[k] = x at hI HN
      obtain ⟨c0, c1, c2, c3, c4⟩ := hI
      have HX : Hid (ArSt w (.slice va d.op.length vc) d (wr.alloc (.cells #[.int .i64 x.op, .int .i64 x.a, .int .i64 x.b, .int .i64 x.c, .int .i64 x.n] 40)) ∧ (wr.alloc (.cells #[.int .i64 x.op, .int .i64 x.a, .int .i64 x.b, .int .i64 x.c, .int .i64 x.n] 40)).heap[wr.heap.size]? = some (.cells #[.int .i64 x.op, .int .i64 x.a, .int .i64 x.b, .int .i64 x.c, .int .i64 x.n] 40 (0, 0))) := hid ⟨HST.out.later (bnew (bid wr) _), heap_alloc_new _ _⟩
      have i0 : (0 : Int) ≤ (k : Int) := by omega
      have i1 : (k : Int) < ((q : Nat) : Int) := by omega
      have i2 : (k : Int) < ((mn : Nat) : Int) := by omega
      have HV0 := hid (HST.out.own)
      have HLT := hid (fun x (hx : (Value.slice va d.op.length vc).ownBlock = some x) => (HST.out.own.old hx).2)
      have hsz := HST.out.below.size
      have l1 := lt_of_block HST.out.box
      clear hcell hmc htl HD HGO HM HR
      have E6 : Hid (d.op.length ≤ 1000) := hid (by omega)
      go_upto_region 5 with fail
      refine wp_rename (fun W => ArSt w (.slice va d.op.length vc) d W ∧ W.heap[wr.heap.size]? = some (.cells #[.int .i64 x.op, .int .i64 x.a, .int .i64 x.b, .int .i64 x.c, .int .i64 x.n] 40 (0, 0)) ∧ W.cell? ⟨mb, mo + k, none⟩ = some (.int .i64 z)) ⟨HX.out.1, HX.out.2, ((bnew (bid wr) _).cell (World.block_lt_of_cell? _ _ hz)).trans hz⟩ ?_
      rintro W ⟨hW, hin, hmz⟩
      have HW := hid hW
      have HIN := hid hin
      generalize wr.heap.size = H at HIN HLT hsz hin l1 ⊢
      clear hW HX hz c0 c1 c2 c3 c4 HST
      obtain ⟨⟨s0, s1, s2⟩, ⟨f0, f1, f2⟩⟩ := HW.out.facts
      obtain ⟨op, a, b', c', n'⟩ := x
      have x0 := cell_of_blk hin 0
      have x1 := cell_of_blk hin 1
      have x2 := cell_of_blk hin 2
      have x3 := cell_of_blk hin 3
      have x4 := cell_of_blk hin 4
      simp only [List.getElem?_toArray, List.getElem?_cons_zero, List.getElem?_cons_succ] at x0 x1 x2 x3 x4
      have HNS : H ≠ w.heap.size + 1 := by omega
      clear hin
      by_cases hA : (q : Int) < z ∧ op = 13
      · obtain ⟨hA1, rfl⟩ := hA
        have hd1 : decide ((q : Int) < z) = true := decide_eq_true hA1
        rw [hd1] at HN
        clear hd1
        have HAR := hid (show arStep true ⟨13, a, b', c', n'⟩ d = ⟨d.op ++ [⟨13, a, b', c', n'⟩], max d.hi a, d.lp⟩ from arStep_13 (by simp [arList]) rfl)
        have HLE : Hid ((d.op ++ [(⟨13, a, b', c', n'⟩ : Ins)]).length ≤ k + 1) := hid (by simp; omega)
        have HL0 : Hid (0 < (d.op ++ [(⟨13, a, b', c', n'⟩ : Ins)]).length) := hid (by simp)
        go_upto_region 8 with (at_builtin; go_must (refine wpList_append_ins1 rfl (.tmp 33) (.tmp 35) 38 rfl Tryz.underlying38 hi hz0 rfl hz1 hz2 rfl HW.out.own ⟨13, a, b', c', n'⟩ _ rfl rfl E6.out HW.out.below.size ?_; intro v' w' hown' hat' hw'; have HG := hid (HW.out.grown hown' hat' hw'); have hfb := hw'.block _ (lt_of_block HW.out.box) HW.out.ne.2; have HI2 := hid (show w'.heap[H]? = _ from ((hw'.block H (lt_of_block HIN.out) (fun e => absurd (HLT.out _ e) (Nat.lt_irrefl _))).trans HIN.out)); obtain ⟨va', vc', rfl, -⟩ := hown'.shape; clear hown' hat' hw'; have f0' : w'.frozen? ⟨w.heap.size + 1, 0, none⟩ = false := frozen_of_blk (hfb.trans HW.out.box) 0; have s0' : w'.cell? ⟨w.heap.size + 1, 0, none⟩ = some (.slice va d.op.length vc) := cell_of_blk (hfb.trans HW.out.box) 0; clear hfb))
        refine wp_rename (fun W2 => ArSt w (.slice va' (d.op ++ [(⟨13, a, b', c', n'⟩ : Ins)]).length vc') ⟨d.op ++ [⟨13, a, b', c', n'⟩], d.hi, d.lp⟩ W2 ∧ W2.heap[H]? = some (.cells #[.int .i64 13, .int .i64 a, .int .i64 b', .int .i64 c', .int .i64 n'] 40 (0, 0))) ⟨by rw [← show (d.op ++ [(⟨13, a, b', c', n'⟩ : Ins)]).length = d.op.length + 1 by simp]; exact HG.out, (Below.heap_setCell _ _ _ _ HNS).trans HI2.out⟩ ?_
        rintro W2 ⟨hW2, hin2⟩
        have HW2 := hid hW2
        clear hW2 HG HI2 s0' f0' s0 s1 s2 f0 f1 f2 x0 x1 x2 x3 x4 HW
        obtain ⟨⟨s0, s1, s2⟩, ⟨f0, f1, f2⟩⟩ := HW2.out.facts
        have x0 := cell_of_blk hin2 0
        have x1 := cell_of_blk hin2 1
        simp only [List.getElem?_toArray, List.getElem?_cons_zero, List.getElem?_cons_succ] at x0 x1
        clear hin2
        generalize (d.op ++ [(⟨13, a, b', c', n'⟩ : Ins)]) = ll at HW2 HAR HLE HL0 s0 s1 s2
        have e0 : ¬ (ll.length : Int) = 0 := by have := HL0.out; omega
        dsimp only at s1 s2

        
        have HMX := hid (show max d.hi a = if d.hi < a then a else d.hi by split <;> omega)
        go_wp2
        exact ⟨⟨k + 1, _, ⟨ll, if d.hi < a then a else d.hi, d.lp⟩, by omega, by go_num, by rw [HN.out, HAR.out, HMX.out], HLE.out, HW2.out.turned⟩, by simp [intOf]; omega⟩
      · have HLE : Hid (d.op.length ≤ k + 1) := hid (by omega)
        have hAL : arList (decide ((q : Int) < z)) ⟨op, a, b', c', n'⟩ d = d.op := by
          unfold arList
          rw [if_neg]
          intro h
          simp only [Bool.and_eq_true, decide_eq_true_eq, beq_iff_eq] at h
          exact hA h
        have HW2 := hid HW.out
        clear x2 x3 x4
        have hsp : ¬ (q : Int) < z ∨ ((q : Int) < z ∧ ¬ op = 13) := by
          by_cases h : (q : Int) < z
          · exact .inr ⟨h, fun e => hA ⟨h, e⟩⟩
          · exact .inl h
        by_cases hz0' : d.op.length = 0
        · have HAR := hid (show arStep (decide ((q : Int) < z)) ⟨op, a, b', c', n'⟩ d = ⟨d.op, d.hi, d.lp⟩ from (arStep_0 (by rw [hAL]; exact hz0')).trans (by rw [hAL]))
          rw [hz0'] at s0
          have HZ := hid hz0'
          clear hA hAL hz0'
          rcases hsp with h | ⟨h, h13⟩
          all_goals
            go_wp2
            exact ⟨⟨k + 1, _, d, by omega, by go_num, by rw [HN.out, HAR.out], HLE.out, HW2.out⟩, by simp [intOf]; omega⟩
        · have e0 : ¬ (d.op.length : Int) = 0 := by omega
          by_cases h13 : op = 13
          · subst h13
            have HAR := hid (show arStep (decide ((q : Int) < z)) ⟨13, a, b', c', n'⟩ d = ⟨d.op, max d.hi a, d.lp⟩ from (arStep_13 (by rw [hAL]; exact hz0') rfl).trans (by rw [hAL]))
            have h : ¬ (q : Int) < z := fun h => hA ⟨h, rfl⟩
            clear hA hAL hz0' hsp
            have HMX := hid (show max d.hi a = if d.hi < a then a else d.hi by split <;> omega)
            go_wp2
            exact ⟨⟨k + 1, _, ⟨d.op, if d.hi < a then a else d.hi, d.lp⟩, by omega, by go_num, by rw [HN.out, HAR.out, HMX.out], HLE.out, HW2.out.turned⟩, by simp [intOf]; omega⟩
          · by_cases h21 : op = 21
            · subst h21
              have HAR := hid (show arStep (decide ((q : Int) < z)) ⟨21, a, b', c', n'⟩ d = ⟨d.op, d.hi, d.lp || decide ((q : Int) < z)⟩ from (arStep_21 (by rw [hAL]; exact hz0') rfl).trans (by rw [hAL]))
              clear hA hAL hz0'
              rcases hsp with h | ⟨h, _⟩
              · have HO := hid (show (d.lp || decide ((q : Int) < z)) = d.lp by rw [decide_eq_false h, Bool.or_false])
                cases hlp : d.lp
                · rw [hlp] at s2 HO HAR
                  clear hlp
                  go_wp2
                  exact ⟨⟨k + 1, _, ⟨d.op, d.hi, false⟩, by omega, by go_num, by rw [HN.out, HAR.out, HO.out], HLE.out, HW2.out.looped⟩, by simp [intOf]; omega⟩
                · rw [hlp] at s2 HO HAR
                  clear hlp
                  go_wp2
                  exact ⟨⟨k + 1, _, ⟨d.op, d.hi, true⟩, by omega, by go_num, by rw [HN.out, HAR.out, HO.out], HLE.out, HW2.out.looped⟩, by simp [intOf]; omega⟩
              · have HO := hid (show (d.lp || decide ((q : Int) < z)) = true by rw [decide_eq_true h, Bool.or_true])
                cases hlp : d.lp
                · rw [hlp] at s2 HO HAR
                  clear hlp
                  go_wp2
                  exact ⟨⟨k + 1, _, ⟨d.op, d.hi, true⟩, by omega, by go_num, by rw [HN.out, HAR.out, HO.out], HLE.out, HW2.out.looped⟩, by simp [intOf]; omega⟩
                · rw [hlp] at s2 HO HAR
                  clear hlp
                  go_wp2
                  exact ⟨⟨k + 1, _, ⟨d.op, d.hi, true⟩, by omega, by go_num, by rw [HN.out, HAR.out, HO.out], HLE.out, HW2.out.looped⟩, by simp [intOf]; omega⟩
            · have HAR := hid (show arStep (decide ((q : Int) < z)) ⟨op, a, b', c', n'⟩ d = ⟨d.op, d.hi, d.lp⟩ from (arStep_x (by rw [hAL]; exact hz0') h13 h21).trans (by rw [hAL]))
              clear hA hAL hz0'
              rcases hsp with h | ⟨h, _⟩
              all_goals
                go_wp2
                exact ⟨⟨k + 1, _, d, by omega, by go_num, by rw [HN.out, HAR.out], HLE.out, HW2.out⟩, by simp [intOf]; omega⟩
    · have e : k = q := by omega
      subst e
      clear hlt
      obtain ⟨⟨s0, s1, s2⟩, ⟨f0, f1, f2⟩⟩ := HST.out.facts
      have g0 := frozen_of_blk HST.out.res 0
      have g1 := frozen_of_blk HST.out.res 1
      have g2 := frozen_of_blk HST.out.res 2
      have r0 := cell_of_blk HST.out.res 0
      have r1 := cell_of_blk HST.out.res 1
      have r2 := cell_of_blk HST.out.res 2
      simp only [List.getElem?_toArray, List.getElem?_cons_zero, List.getElem?_cons_succ] at r0 r1 r2
      have HRB := hid (blk_setCell (blk_setCell (blk_setCell HST.out.res 0 (.slice va d.op.length vc)) 1 (.int .i64 d.hi)) 2 (.bool d.lp))
      have q0 := cell_of_blk HRB.out 0
      have q1 := cell_of_blk HRB.out 1
      have q2 := cell_of_blk HRB.out 2
      simp at q0 q1 q2
      have HQ0 := hid q0
      have HQ1 := hid q1
      have HQ2 := hid q2
      clear q0 q1 q2
      have HEQ : Hid (aroundF ps ms k = d) := hid (by rw [HGO.out, List.drop_eq_nil_of_le (by simp; omega)]; rfl)
      have hw3 : ∀ u v x, Wrote (fun b => b = w.heap.size) wr (((wr.setCell ⟨w.heap.size, 0, none⟩ u).setCell ⟨w.heap.size, 1, none⟩ v).setCell ⟨w.heap.size, 2, none⟩ x) := fun u v x => Wrote.setCell (S := fun b => b = w.heap.size) (Wrote.setCell (S := fun b => b = w.heap.size) (Wrote.setCell (S := fun b => b = w.heap.size) (Wrote.refl _ wr) (p := ⟨w.heap.size, 0, none⟩) (fun _ => rfl) _) (p := ⟨w.heap.size, 1, none⟩) (fun _ => rfl) _) (p := ⟨w.heap.size, 2, none⟩) (fun _ => rfl) _
      have HW3 := hid hw3
      clear hw3
      go_wp2
      refine bodyPost_ret (v := d.v va vc) (by simp [results, Tryz.results61, go_sem, HQ0.out, HQ1.out, HQ2.out]) rfl ?_
      rw [HEQ.out]
      have hw3 := HW3.out (.slice va d.op.length vc) (.int .i64 d.hi) (.bool d.lp)
      have hown := HST.out.own.kept hw3 (fun x hx e => HST.out.ne.1 (by rw [hx, e]))
      obtain ⟨a2, c2, e2, hrow, -⟩ := hown.shape
      simp only [Value.slice.injEq] at e2
      obtain ⟨rfl, -, rfl⟩ := e2
      exact ⟨va, vc, rfl, hrow, by omega, HST.out.below.trans (hw3.below HST.out.below.size (fun j hj e => by omega))⟩

end Go.Proofs.YtblalejegjieaaaGreatDoor
