/-
  chain: an At with the Ats one right behind the other, and what is behind the last.
-/
import Derived.Test.YtbobjhadckeieaaDoorPlcs
import Derived.Test.YtbobjhadckeieaaDoorMetP
import Derived.Deep.DeepCutAuto
import Derived.Deep.CutBlock
import Derived.Deep.AppendLies
namespace Go.Proofs.YtbobjhadckeieaaDoor
open Go.RowKit
set_option linter.unusedVariables false

theorem run_equal_ptr_nil (w : World) (b : Nat) : (Op.equal 51 (.pointer none) (ptrV b)).run Tryd.prog w = .ok false w := by
  obtain ⟨j, hj, hz⟩ := size_at
  have key : ∀ d : Nat, (Op.equalIn (d + 1) 51 (.pointer none) (ptrV b)).run Tryd.prog w = .ok false w := fun d => by
    simp [ptrV, Op.equalIn, run_underlying Tryd.underlying51, sizeOf, typeInfo, hj]
  exact key 9999
theorem run_checkKey_nil (w : World) (e : Bool) : (Instr.checkKey e 10000 51 (.pointer none)).run Tryd.prog w = .ok () w := by
  have key : ∀ d : Nat, (Instr.checkKey e (d + 1) 51 (.pointer none)).run Tryd.prog w = .ok () w := fun d => by simp [Instr.checkKey, run_underlying Tryd.underlying51]
  exact key 9999
theorem run_findAsking_nil (w : World) : ∀ (ks : List Nat) (es : List MapEntry) (i : Nat), metEntriesP ks es → (Instr.findAsking 51 (.pointer none) es i).run Tryd.prog w = .ok none w := by
  intro ks
  induction ks with
  | nil =>
    intro es i hm
    cases es with
    | nil => simp [Instr.findAsking]
    | cons e es => simp [metEntriesP] at hm
  | cons k ks ih =>
    intro es i hm
    cases es with
    | nil => simp [metEntriesP] at hm
    | cons e es =>
      simp only [metEntriesP, List.map_cons, List.cons.injEq, Prod.mk.injEq] at hm
      obtain ⟨⟨he, hv⟩, hm⟩ := hm
      rw [Instr.findAsking, he]
      simp [run_equal_ptr_nil w k, ih es (i + 1) hm]
theorem run_lookup_nil {w : World} {r : Nat} {ks : List Nat} (hm : MetAtP w r ks) :
    (Instr.lookup 129 (.map (some r)) (.pointer none) true).run Tryd.prog w = .ok (.tuple #[.agg #[], .bool false]) w := by
  obtain ⟨es, clock, hb, hm⟩ := hm
  have h1 : (Instr.findKey 51 (.pointer none) es.toList).run Tryd.prog w = .ok none w := by
    cases hes : es.toList with
    | nil => simp [Instr.findKey, Instr.findNow, run_underlying Tryd.underlying51]
    | cons e l =>
      rw [hes] at hm
      simp [Instr.findKey, Instr.findNow, Instr.sameNow, run_underlying Tryd.underlying51, run_findAsking_nil w ks (e :: l) 0 hm]
  have hc := run_checkKey_nil w es.isEmpty
  have hz : (zeroValue 130).run Tryd.prog w = .ok (.agg #[]) w := by first | exact Tryd.zeroValue130 w | simp [go_sem]
  simp [Instr.lookup, run_underlying Tryd.underlying129, MapKept.run_getObj_map hb, hc, h1, hz]

/-- Ahead of round k of the first loop. -/
structure ChnAt (w : World) (ks : List (Nat × Addr)) (r k : Nat) (lv : Value) (W : World) : Prop where
  row : W.ownsRow w.heap.size 51 1 lv k ((ks.take k).map ptrOf)
  met : MetAtP W r ((ks.take k).map fun x => x.2.block)
  base : w.heap.size ≤ r
  ne : lv.ownBlock ≠ some r
  below : Below w.heap.size w W

theorem chain_ptrs {w : World} {ks : List (Nat × Addr)} (hc : Chain w ks) {k : Nat} (hk : k + 1 < ks.length) : ∃ b t p, ks[k]? = some (51, ⟨b, 0, none⟩) ∧ AtAt w b t p (errV (ks.getD (k + 1) k0).1 (ks.getD (k + 1) k0).2) ∧ b ∉ (ks.take k).map (fun x => x.2.block) ∧ ∀ b' ∈ (ks.take k).map (fun x => x.2.block), PtrAt w b' := by
  obtain ⟨b, t, p, h1, h2⟩ := hc.more k hk
  have key : ∀ b' ∈ (ks.take k).map (fun x => x.2.block), ∃ j, j < k ∧ ks[j]? = some (51, ⟨b', 0, none⟩) ∧ PtrAt w b' := by
    intro b' hb'
    obtain ⟨x, hx, rfl⟩ := List.mem_map.1 hb'
    obtain ⟨j, hj, he⟩ := List.mem_iff_getElem.1 hx
    rw [List.length_take] at hj
    obtain ⟨b2, t2, p2, h3, h4⟩ := hc.more j (by omega)
    have hjk : j < k := by omega
    have : ks[j]? = some x := by
      rw [← he, List.getElem_take]
      exact List.getElem?_eq_getElem (by omega)
    rw [h3] at this
    obtain rfl := Option.some.inj this
    exact ⟨j, hjk, h3, _, _, h4⟩
  refine ⟨b, t, p, h1, h2, fun hm => ?_, fun b' hb' => ?_⟩
  · obtain ⟨j, hj, hj2, _⟩ := key b hm
    have hkl : k < ks.length := by omega
    have hjl : j < ks.length := by omega
    have e1 := (List.getElem?_eq_some_iff.1 h1).2
    have e2 := (List.getElem?_eq_some_iff.1 hj2).2
    have := (List.getElem_inj hc.apart).1 (e2.trans e1.symm)
    omega
  · obtain ⟨_, _, _, h⟩ := key b' hb'
    exact h
theorem PtrAt.below {w w' : World} {b : Nat} (h : PtrAt w b) (hb : Below w.heap.size w w') : PtrAt w' b := by
  obtain ⟨c, t, h⟩ := h
  exact ⟨c, t, (hb.block b (lt_of_block h)).trans h⟩
theorem Chain.lastOnly {w : World} {ks : List (Nat × Addr)} (hc : Chain w ks) {b : Addr} (hb : ks[ks.length - 1]? = some (167, b)) : Chain w [(167, b)] := by
  have hf := hc.full
  obtain ⟨b', h1, h2⟩ := hc.last (ks.length - 1) (by omega)
  rw [hb] at h1
  obtain ⟨_, rfl⟩ := Prod.mk.inj (Option.some.inj h1)
  refine ⟨by simp, by simp, by simp, fun k hk => ?_, fun k hk => ?_⟩
  · simp at hk
  · obtain rfl : k = 0 := by simpa using hk
    exact ⟨b, rfl, h2⟩

def chV0 (ks : List (Nat × Addr)) (k : Nat) : Value := if k + 1 < ks.length then (match ks[k]? with | some x => .pointer (some x.2) | none => .pointer none) else .pointer none
def chV6 (ks : List (Nat × Addr)) (k : Nat) : Value := if k = 0 then .nilIface else errV (ks.getD k k0).1 (ks.getD k k0).2
def lenV : Value → Nat
  | .slice _ n _ => n
  | _ => 0
/-- What chain hands back. -/
def ChnRet (w : World) (ks : List (Nat × Addr)) (e : Ending) (w' : World) : Prop :=
  ∃ lv, e = .returned (.tuple #[lv, errV (ks.getD (ks.length - 1) k0).1 (ks.getD (ks.length - 1) k0).2]) ∧ w'.ownsRow w.heap.size 51 1 lv (ks.length - 1) ((ks.take (ks.length - 1)).map ptrOf) ∧ Below w.heap.size w w'

set_option maxRecDepth 100000 in
set_option maxHeartbeats 4000000 in
theorem chain_any {w : World} {ks : List (Nat × Addr)} (hc : Chain w ks) (h2 : 2 ≤ ks.length) {b0 : Nat} (hb0 : ks[0]? = some (51, ⟨b0, 0, none⟩)) :
    Calls Tryd.prog 43 #[.pointer (some ⟨b0, 0, none⟩)] w (ChnRet w ks) := by
  have HC := hid hc
  have HB0 := hid hb0
  have hfew := hc.few
  obtain ⟨i0, hi0, hz0, hz1, hz2⟩ := info_ptr
  clear hc hb0
  go_enter Tryd.func43, Tryd.ntmps43
  have HS0 : Hid (ChnAt w ks w.heap.size 0 (.slice none 0 0) (w.alloc (.map #[] 0))) := hid ⟨World.ownsRow_nil _ _ _ _, ⟨#[], 0, heap_alloc_new _ _, rfl⟩, Nat.le_refl _, by simp [Value.ownBlock], bnew (bid w) _⟩
  have hmm := @run_makeMap Tryd.prog
  have ha1 := assert_at_at
  have ha2 := assert_at_str
  go_wp2_with fail
  go_loopw [0, 4, 6] (fun v0 v4 v6 wr => ∃ (k : Nat) (a : Option Addr) (c : Nat), k + 1 ≤ ks.length ∧ v4 = .slice a k c ∧ Hid (v0 = chV0 ks k) ∧ Hid (v6 = chV6 ks k) ∧ ChnAt w ks w.heap.size k (.slice a k c) wr) (fun _ v4 _ _ => ks.length - lenV v4)
  case atStart => exact ⟨0, none, 0, by omega, rfl, hid (by unfold chV0; rw [if_pos (by omega), HB0.out]), hid rfl, HS0.out⟩
  case round =>
    clear HS0
    obtain ⟨k, a, c, hk, rfl, H0, H6, hs⟩ := hrel
    have HS := hid hs
    clear hs
    by_cases hlt : k + 1 < ks.length
    · obtain ⟨b, t, p, hkb, hat0, hnb, hpb0⟩ := chain_ptrs HC.out hlt
      obtain rfl : u0 = ptrV b := by
        have := H0.out
        unfold chV0 at this
        rw [if_pos hlt, hkb] at this
        exact this
      have HAT := hid hat0
      have HPB := hid hpb0
      have HKB := hid hkb
      have HNB := hid hnb
      have HLT := hid hlt
      have hlk := run_lookup_metP HS.out.met (fun q hq => (HPB.out q hq).below HS.out.below) (b := b) ⟨_, _, HAT.out.kept (Wrote.of_below HS.out.below (fun _ => False)) fun h => h⟩
      rw [decide_eq_false hnb] at hlk
      have HBA := hid (bnew HS.out.below (.cells #[] 130))
      obtain ⟨w2, hmu, hm2, hw2⟩ := run_mapUpdate_metP (w := wr.alloc (.cells #[] 130)) (HS.out.met.kept (Wrote.of_below (bnew (bid wr) _) (fun _ => False)) fun h => h) (fun q hq => (HPB.out q hq).below HBA.out) (b := b) ⟨_, _, HAT.out.kept (Wrote.of_below HBA.out (fun _ => False)) fun h => h⟩ hnb
      have HM2 := hid hm2
      have HW2 := hid hw2
      have HB2 := hid (HBA.out.trans (hw2.below HBA.out.size (fun q hq e => by have := HS.out.base; omega)))
      have HR2 := hid (ownsRow_kept (ownsRow_kept HS.out.row (Wrote.of_below (bnew (bid wr) (.cells #[] 130)) (fun _ => False)) (fun _ _ h => h)) hw2 (fun g hg e => HS.out.ne (by rw [hg, e])))
      have E1 : Hid (k + 1 ≤ maxLen) := hid (by unfold maxLen; omega)
      have E2 : Hid ((k + 1) * 8 ≤ 140737488355328) := hid (by omega)
      have hnext : (∃ b1, ks.getD (k + 1) k0 = (51, ⟨b1, 0, none⟩) ∧ k + 1 + 1 < ks.length) ∨ (∃ b1, ks.getD (k + 1) k0 = (167, b1) ∧ k + 1 + 1 = ks.length) := by
        rcases Nat.lt_or_ge (k + 1 + 1) ks.length with h | h
        · obtain ⟨b1, _, _, h1, _⟩ := HC.out.more (k + 1) h
          exact .inl ⟨b1, by simp [List.getD_eq_getElem?_getD, h1], h⟩
        · obtain ⟨b1, h1, _⟩ := HC.out.last (k + 1) (by omega)
          exact .inr ⟨b1, by simp [List.getD_eq_getElem?_getD, h1], by omega⟩
      have HNX := hid hnext
      clear hnext hlt hkb hat0 hnb hpb0 hm2 hw2 H0 H6
      go_upto_region 10 with (at_builtin; refine wpList_append_own_at _ rfl _ _ 68 rfl w.heap.size 51 i0 (.pointer none) 1 8 Tryd.underlying68 hi0 hz0 hz1 hz2 rfl (by decide) (.slice a k c) k _ rfl (ownsRow_kept HR2.out (Wrote.of_below (bnew (bid w2) _) (fun _ => False)) (fun _ _ h => h)) ⟨w2.heap.size, 0, none⟩ 1 1 [.pointer (some ⟨b, 0, none⟩)] rfl rfl (cell_one_new _ _ _) (by simp [Value.oneCell']) E1.out E2.out (Nat.le_trans HB2.out.size (bnew (bid w2) _).size) ?_; intro v5 w5 hown5 hg5 hn5 hat5; have HO5 := hid hown5; have HG5 := hid hg5; have HA5 := hid hat5; clear hown5 hg5 hn5 hat5)
      have HB5 := hid ((bnew HB2.out (.cells #[.pointer (some ⟨b, 0, none⟩)] 51)).grown HG5.out (bnew HB2.out _).size (fun q hq => (ownsRow_block HR2.out hq).1))
      have HM5 := hid ((HM2.out.kept (Wrote.of_below (bnew (bid w2) (.cells #[.pointer (some ⟨b, 0, none⟩)] 51)) (fun _ => False)) fun h => h).kept (S := fun q => (Value.slice a k c).ownBlock = some q) ((Wrote.refl _ _).grown HG5.out fun q h _ => h) HS.out.ne)
      obtain ⟨g5, cap5, rfl, _, _⟩ := World.ownsRow.form HO5.out (by omega)
      rcases HNX.out with ⟨b1, hA, hl1⟩ | ⟨b1, hA, hl1⟩
      · have HL1 := hid hl1
        clear hl1
        have e1 : AtAt w b t p (errV 51 ⟨b1, 0, none⟩) := by have h := HAT.out; rw [hA] at h; exact h
        obtain ⟨k0c, k1c, k2c⟩ := (e1.kept (Wrote.of_below HB5.out (fun _ => False)) fun h => h).facts
        clear e1
        go_wp2
        go_roundw
        case rel =>
          refine ⟨k + 1, _, _, HLT.out, rfl, hid ?_, hid ?_, ⟨?_, ?_, Nat.le_refl _, ?_, HB5.out⟩⟩
          · unfold chV0
            rw [if_pos HL1.out]
            have h : ks[k + 1]? = some (51, ⟨b1, 0, none⟩) := by
              have h1 := List.getElem?_eq_getElem HLT.out
              rw [h1]
              rw [List.getD_eq_getElem?_getD, h1] at hA
              exact congrArg some hA
            rw [h]
          · unfold chV6
            rw [if_neg (by omega), hA]
          · rw [List.take_add_one, HKB.out, List.map_append]
            exact HO5.out
          · rw [List.take_add_one, HKB.out, List.map_append]
            exact HM5.out
          · rcases HA5.out with e | e
            · rw [e]; exact HS.out.ne
            · rw [e]
              have := HM2.out.lt
              simp only [size_alloc1, ne_eq, Option.some.injEq]
              omega
        case measure => have := HLT.out; simp [lenV]; omega
      · have HL1 := hid hl1
        clear hl1
        have e1 : AtAt w b t p (errV 167 b1) := by have h := HAT.out; rw [hA] at h; exact h
        obtain ⟨k0c, k1c, k2c⟩ := (e1.kept (Wrote.of_below HB5.out (fun _ => False)) fun h => h).facts
        clear e1
        go_wp2
        go_roundw
        case rel =>
          refine ⟨k + 1, _, _, HLT.out, rfl, hid ?_, hid ?_, ⟨?_, ?_, Nat.le_refl _, ?_, HB5.out⟩⟩
          · unfold chV0
            rw [if_neg (by have := HL1.out; omega)]
          · unfold chV6
            rw [if_neg (by omega), hA]
          · rw [List.take_add_one, HKB.out, List.map_append]
            exact HO5.out
          · rw [List.take_add_one, HKB.out, List.map_append]
            exact HM5.out
          · rcases HA5.out with e | e
            · rw [e]; exact HS.out.ne
            · rw [e]
              have := HM2.out.lt
              simp only [size_alloc1, ne_eq, Option.some.injEq]
              omega
        case measure => have := HLT.out; simp [lenV]; omega
    · have hkn : k = ks.length - 1 := by omega
      obtain ⟨bl, hbl, _⟩ := HC.out.last k (by omega)
      have hgd : ks.getD k k0 = (167, bl) := by simp [List.getD_eq_getElem?_getD, hbl]
      obtain rfl : u0 = .pointer none := by
        have := H0.out
        unfold chV0 at this
        rw [if_neg hlt] at this
        exact this
      obtain rfl : u6 = errV 167 bl := by
        have := H6.out
        unfold chV6 at this
        rw [if_neg (by omega), hgd] at this
        exact this
      have HGD := hid hgd
      have HKN := hid hkn
      have HP := hid (parts_cells ((HC.out.lastOnly (by rw [← hkn]; exact hbl)).below HS.out.below))
      have HPC : Hid (Calls Tryd.prog 37 #[errV 167 bl] wr fun e w' => ∃ g cap, e = .returned (.slice (some ⟨g, 0, none⟩) 1 cap) ∧ w'.cell? ⟨g, 0, none⟩ = some (errV 167 bl) ∧ g < w'.heap.size ∧ Below wr.heap.size wr w') := hid (by
        refine HP.out.mono ?_
        rintro e w' ⟨g, cap, h1, h2, h3, _, h4⟩
        exact ⟨g, cap, h1, h2 0 (by simp), h3, h4⟩)
      clear hgd hkn hbl H0 H6 HP
      go_wp2_with (go_at_call 37; (with_reducible refine HPC.out.mono ?_); rintro e w3 ⟨g, cap, rfl, hcell, hgl, hb3⟩; have HCE := hid hcell; have HB3 := hid hb3; clear hcell hb3)
      go_loopw [45] (fun iv wq => ∃ q : Nat, q ≤ 1 ∧ iv = .int .i64 q ∧ Below w3.heap.size w3 wq) (fun iv _ => 1 - (intOf iv).toNat)
      case atStart => exact ⟨0, by omega, rfl, Below.refl _ _⟩
      case round =>
        obtain ⟨q, hq, rfl, hsq⟩ := hrel
        have HQ := hid hsq
        clear hsq
        by_cases hq0 : q = 0
        · subst hq0
          have c0 := (HQ.out.cell (p := ⟨g, 0, none⟩) hgl).trans HCE.out
          have hlk := run_lookup_nil ((HS.out.met.kept (Wrote.of_below HB3.out (fun _ => False)) fun h => h).kept (Wrote.of_below HQ.out (fun _ => False)) fun h => h)
          go_wp2
          go_roundw
          case rel => exact ⟨1, by omega, by trivial, bnew HQ.out _⟩
          case measure => simp [intOf]
        · obtain rfl : q = 1 := by omega
          go_wp2
          go_ret2
          have hrow := ownsRow_kept (ownsRow_kept HS.out.row (Wrote.of_below HB3.out (fun _ => False)) (fun _ _ h => h)) (Wrote.of_below HQ.out (fun _ => False)) (fun _ _ h => h)
          refine ⟨.slice a k c, ?_, ?_, bthen (bthen HS.out.below HB3.out) HQ.out⟩
          · rw [← HKN.out, HGD.out]
            rfl
          · rw [← HKN.out]
            exact hrow

end Go.Proofs.YtbobjhadckeieaaDoor
