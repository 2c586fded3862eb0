/-
  The program's attempt with values: it claims; parts that come once more; a step.
-/
import Derived.Test.YtjfinnjmcnjciaaNpF
import Derived.Maps.AppendAt
import Derived.Deep.RegionHeld3
namespace Go.Proofs.Ytjfinnjmcnjciaa
open Go.RowKit
attribute [local go_sem] Later.cell Later.frozen

/-- A slice of ints that the call made, from block B on. -/
def JP (w : World) (B : Nat) (v : Value) (ns : List Int) : Prop := w.ownsRow B 107 1 v ns.length (ns.map fun (n : Int) => Value.int .i64 n)
theorem JP.nil (w : World) (B : Nat) : JP w B (.slice none 0 0) [] := World.ownsRow_nil _ _ _ _
theorem JP.old {w : World} {B : Nat} {v : Value} {ns : List Int} (h : JP w B v ns) {g : Nat} (hg : v.ownBlock = some g) : B ≤ g ∧ g < w.heap.size := World.ownsRow.lt h g hg
theorem JP.kept {S : Nat → Prop} {w w' : World} {B : Nat} {v : Value} {ns : List Int} (h : JP w B v ns) (hw : Wrote S w w') (hs : ∀ k, v.ownBlock = some k → ¬ S k) : JP w' B v ns := by
  refine ⟨h.1, ?_⟩
  rcases h.2 with h' | ⟨g, cap, cur, h1, h2, h3, h4⟩
  · exact .inl h'
  · refine .inr ⟨g, cap, cur, h1, h2, ?_, h4⟩
    rw [hw.block g (lt_of_block h3) (hs g (by simp [h1, Value.ownBlock]))]
    exact h3
theorem JP.mono {w : World} {B B' : Nat} {v : Value} {ns : List Int} (h : JP w B v ns) (hB : B' ≤ B) : JP w B' v ns := by
  refine ⟨h.1, ?_⟩
  rcases h.2 with h' | ⟨g, cap, cur, h1, h2, h3⟩
  · exact .inl h'
  · exact .inr ⟨g, cap, cur, h1, Nat.le_trans hB h2, h3⟩
theorem JP.form {w : World} {B : Nat} {v : Value} {ns : List Int} (h : JP w B v ns) : ∃ a c, v = .slice a ns.length c ∧ (0 < ns.length → ∃ g, a = some ⟨g, 0, none⟩) ∧ ns.length ≤ maxLen ∧ c ≤ maxLen ∧ ns.length ≤ c := by
  rcases h.2 with ⟨h1, h0⟩ | ⟨g, cap, cur, h1, h2, h3, h4, h5, _⟩
  · exact ⟨none, 0, by rw [h1, h0], fun h => by omega, by omega, Nat.zero_le _, by omega⟩
  · exact ⟨some ⟨g, 0, none⟩, cap, h1, fun _ => ⟨g, rfl⟩, Nat.le_trans h4 h5, h5, h4⟩
theorem JP.at {w : World} {B g c n : Nat} {ns : List Int} (h : JP w B (.slice (some ⟨g, 0, none⟩) n c) ns) {k : Nat} (hk : k < ns.length) : w.cell? ⟨g, k, none⟩ = some (.int .i64 (ns.getD k 0)) ∧ w.frozen? ⟨g, k, none⟩ = false := by
  have hn : n = ns.length := by
    rcases h.2 with ⟨h1, h0⟩ | ⟨g', cap, cur, h1, _⟩
    · omega
    · simp only [Value.slice.injEq] at h1; exact h1.2.1
  subst hn
  refine ⟨?_, World.ownsRow.frozenAt h k⟩
  rw [World.ownsRow.cellAt h k (by simpa using hk)]
  simp [hk]
/-- A literal that has just been laid. -/
theorem JP.lit (w : World) (B : Nat) (ns : List Int) (cs : Array Value) (h : cs = (ns.map fun (n : Int) => Value.int .i64 n).toArray) (n : Nat) (hn : n = ns.length) (hB : B ≤ w.heap.size) (hm : ns.length ≤ maxLen) : JP (w.alloc (.cells cs 107)) B (.slice (some ⟨w.heap.size, 0, none⟩) n n) ns := by
  subst h hn
  refine ⟨by simp, .inr ⟨w.heap.size, ns.length, _, rfl, hB, heap_alloc_new _ _, Nat.le_refl _, hm, by simp, by simp [List.take_of_length_le]⟩⟩
theorem infoP : (Try.prog.info? 107).map (fun i => (i.zero, i.size, i.bytes)) = some (some (.int .i64 0), 1, 8) := by kernel_rfl
/-- append of some ints that stand somewhere, to a list of one's own: one operation. -/
theorem wp_append_jp {o : Oper} {a : Act} {W : World} {K : Act → World → Prop} {Q : Exit → Act → World → Prop} (s x : Operand)
    (ho : o.op = .call { callee := .builtin .append, args := #[s, x], argTypes := #[97, 97] })
    {B : Nat} {v : Value} {ns : List Int} (hs : a.eval s = v) (hown : JP W B v ns) {ad : Addr} {m c : Nat} (ms : List Int) (hx : a.eval x = .slice (some ad) m c)
    (hnews : ∀ j, j < m → W.cell? (ad.add j) = some (.int .i64 (ms.getD j 0))) (hm : ms.length = m) (h6 : ns.length + m ≤ 1000) (hB : B ≤ W.heap.size)
    (h : ∀ v' w', JP w' B v' (ns ++ ms) → Wrote (fun b => v.ownBlock = some b) W w' → (v'.ownBlock = v.ownBlock ∨ v'.ownBlock = some W.heap.size) → (v' = .slice none 0 0 ↔ v = .slice none 0 0 ∧ m = 0) → K (a.put o.dst v') w') : o.wp Try.prog a W K Q := by
  obtain ⟨iI, hi, hz0, hz1, hz2⟩ := info_parts infoP
  subst hm
  obtain ⟨v', w', hr, h2, h3, h4, h5⟩ := run_append_own_at (P := Try.prog) W B 97 o.type 107 iI (.int .i64 0) 1 8 Try.underlying97 hi hz0 hz1 hz2 rfl (by decide) v ns.length (ns.map fun (n : Int) => Value.int .i64 n) hown ad ms.length c (ms.map fun (n : Int) => Value.int .i64 n) (by simp)
    (fun j u hu => by
      rw [List.getElem?_map, Option.map_eq_some_iff] at hu
      obtain ⟨z, hz, rfl⟩ := hu
      have hj : j < ms.length := (List.getElem?_eq_some_iff.1 hz).1
      rw [hnews j hj]
      simp [hz])
    (fun u hu => by obtain ⟨z, _, rfl⟩ := List.mem_map.1 hu; rfl) (by unfold maxLen; omega) (by omega) hB
  unfold Oper.wp execOp
  simp only [ho, resolve, invoke, builtin, Sem.run_bind, Sem.run_pure, Result.andThen_ok, List.map_toArray, List.map_cons, List.map_nil, hs, hx, hr]
  refine h v' w' ?_ ((Wrote.refl _ W).grown h3 fun j hj _ => hj) h5 h4
  unfold JP
  rw [List.map_append, List.length_append]
  exact h2
theorem wpList_append_jp {ops : Array Oper} {rest : List Oper} {o : Oper} {a : Act} {W : World} {Q : Exit → Act → World → Prop} (hgd : o.guard = none) (s x : Operand)
    (ho : o.op = .call { callee := .builtin .append, args := #[s, x], argTypes := #[97, 97] })
    {B : Nat} {v : Value} {ns : List Int} (hs : a.eval s = v) (hown : JP W B v ns) {ad : Addr} {m c : Nat} (ms : List Int) (hx : a.eval x = .slice (some ad) m c)
    (hnews : ∀ j, j < m → W.cell? (ad.add j) = some (.int .i64 (ms.getD j 0))) (hm : ms.length = m) (h6 : ns.length + m ≤ 1000) (hB : B ≤ W.heap.size)
    (h : ∀ v' w', JP w' B v' (ns ++ ms) → Wrote (fun b => v.ownBlock = some b) W w' → (v'.ownBlock = v.ownBlock ∨ v'.ownBlock = some W.heap.size) → (v' = .slice none 0 0 ↔ v = .slice none 0 0 ∧ m = 0) → wpList Try.prog ops Q rest (a.put o.dst v') w') : wpList Try.prog ops Q (o :: rest) a W := by
  refine wpList_plain hgd fun K hK => ?_
  exact wp_append_jp s x ho hs hown ms hx hnews hm h6 hB fun v' w' h1 h2 h3 h4 => hK _ _ (h v' w' h1 h2 h3 h4)

variable {w w' : World} {ρ : Nat → Nat} {r b : Nat} {x : PT} {l : PL} {B mb : Nat} {vw : Value} {s s' : MS}
set_option maxHeartbeats 1000000 in
theorem ahead_any (p : Int) (w : World) : Calls Try.prog 73 #[.int .i64 p] w fun e w' => e = .returned (.int .i64 (aheadP p)) ∧ w = w' := by
  by_cases hp : p = 5
  · have HE := hid (show aheadP p = 4 from if_pos hp)
    rw [HE.out]
    subst hp
    go_enter Try.func73, Try.ntmps73
    go_wp2
    go_ret
    exact ⟨rfl, rfl⟩
  · have hpb : (p == 5) = false := by simpa using hp
    have HE := hid (show aheadP p = 14 from if_neg hp)
    rw [HE.out]
    go_enter Try.func73, Try.ntmps73
    go_wp2
    go_ret
    exact ⟨rfl, rfl⟩
/-- Parts are put ahead. -/
theorem PX.ahead (h : PX w ρ r b x l) {ps : List Int} {w1 w2 : World} {v : Value} {g0 : Nat} (hb : Below w.heap.size w w1) (hg0 : w.heap.size ≤ g0) (hg1 : g0 < w1.heap.size) (hv : JP w2 w.heap.size v (ps ++ x.parts)) (hw : Wrote (fun k => k = g0) w1 w2)
    {a : Option Addr} {c : Nat} (hva : v = .slice a (ps ++ x.parts).length c) :
    ∃ ρ', Gr ρ ρ' w ∧ PX ((w2.setCell ⟨b, 16, none⟩ v).setCell ⟨b, 17, none⟩ (.int .i64 0)) ρ' r b (putP x ps) { l with pa := a, pc := c } ∧ Wrote (Own ρ r) w ((w2.setCell ⟨b, 16, none⟩ v).setCell ⟨b, 17, none⟩ (.int .i64 0)) := by
  have hlt := h.lt
  have hg := newR_gr ρ w (r + 7)
  have h2 : PX w1 (newR ρ w.heap.size (r + 7)) r b x l := (h.gr hg).below hb
  have hgo : newR ρ w.heap.size (r + 7) g0 = r + 7 := newR_new hg0
  have hb1 := h2.ins.b1
  have hne : g0 ≠ b := fun e => by subst e; omega
  have hw3 := ((Wrote.refl (fun k => k = b) w2).setCell (p := ⟨b, 16, none⟩) (fun _ => rfl) v).setCell (p := ⟨b, 17, none⟩) (fun _ => rfl) (.int .i64 0)
  have i2 := h2.ins.kept hw fun k h1 h3 e => by subst e; omega
  have i3 := i2.kept hw3 fun k h1 h3 e => by subst e; omega
  have hblk2 : w2.heap[b]? = some (.cells (ptC x l) 99 (0, 0)) := (hw.block b h2.lt (fun e => hne e.symm)).trans h2.blk
  subst hva
  have hv3 : JP ((w2.setCell ⟨b, 16, none⟩ (.slice a (ps ++ x.parts).length c)).setCell ⟨b, 17, none⟩ (.int .i64 0)) w.heap.size (.slice a (ps ++ x.parts).length c) (ps ++ x.parts) := hv.kept hw3 fun k hk e => by subst e; have := (hv.old hk).1; omega
  obtain ⟨a', c', e1, _, _, hcm, hlc⟩ := hv3.form
  simp only [Value.slice.injEq] at e1
  obtain ⟨rfl, _, rfl⟩ := e1
  refine ⟨newR ρ w.heap.size (r + 7), hg, ⟨blk_setCell (blk_setCell hblk2 16 _) 17 _, i3.same rfl rfl, ⟨IntRow.of_own hv3, fun a1 ha1 _ => ?_, hlc, hcm⟩⟩, ?_⟩
  · have ha1 : a = some a1 := ha1
    have hk : (Value.slice a (ps ++ x.parts).length c).ownBlock = some a1.block := by subst ha1; rfl
    have := hv3.old hk
    exact ⟨newR_new this.1, this.2⟩
  · exact ((Wrote.of_below hb (Own ρ r)).then hw (fun i hi e => by subst e; exact absurd hi (by omega))).trans (hw3.mono fun k _ e => by subst e; exact h.own)

set_option maxHeartbeats 2000000 in
theorem putLit (ps : List Int) (cs : Array Value) (hcs : cs = (ps.map fun (n : Int) => Value.int .i64 n).toArray) (n : Nat) (hn : n = ps.length) (h100 : n ≤ 100) (h : PX w ρ r b x l) (hne : x.parts ≠ []) (hpl : x.parts.length ≤ 800) :
    Calls Try.prog 72 #[.pointer (some ⟨b, 0, none⟩), .slice (some ⟨w.heap.size, 0, none⟩) n n] (w.alloc (.cells cs 107)) (TpRet0 w ρ r b (putP x ps)) := by
  have hb0 := bnew (bid w) (.cells cs 107)
  have HJ := hid (JP.lit w w.heap.size ps cs hcs n hn (Nat.le_refl _) (by rw [← hn]; exact Nat.le_trans h100 (by unfold maxLen; decide)))
  have HB0 := hid hb0
  have HS0 := hid (size_alloc1 w (.cells cs 107))
  have h1 := h.below hb0
  obtain ⟨g, off, hpa, hgl, hc⟩ := h1.parts.row.at (List.length_pos_iff.2 hne)
  have HC := hid (show ∀ j, j < x.parts.length → (w.alloc (.cells cs 107)).cell? ((⟨g, off, none⟩ : Addr).add j) = some (.int .i64 (x.parts.getD j 0)) from fun j hj => by rw [add_at]; exact hc j hj)
  have c16 : (w.alloc (.cells cs 107)).cell? ⟨b, 16, none⟩ = some (.slice l.pa x.parts.length l.pc) := h1.c 16
  have f16 := h1.f 16
  rw [hpa] at c16
  have H := hid h
  have HBK := hid h1.blk
  have hblt := h1.lt
  have HNB := hid (show b ≠ w.heap.size from Nat.ne_of_lt h.lt)
  have HL := hid (show ps.length + x.parts.length ≤ 1000 by omega)
  have HSZ := hid (show w.heap.size ≤ (w.alloc (.cells cs 107)).heap.size by rw [size_alloc1]; omega)
  clear h h1 hc hpa hne hpl hb0 hcs
  generalize hW : w.alloc (.cells cs 107) = W1 at *
  go_enter Try.func72, Try.ntmps72
  go_wp2_with (at_builtin; go_must (refine wpList_append_jp rfl (.tmp 6) (.tmp 10) rfl rfl HJ.out x.parts rfl HC.out rfl HL.out HSZ.out ?_); intro v' w' hj hw ho hn'; obtain ⟨va, vc, rfl, _⟩ := hj.form; have HV := hid hj; have hw0 : Wrote (fun k => k = w.heap.size) W1 w' := hw.mono (fun k _ e => (Option.some.inj e).symm); have HW := hid hw0; have hbk := (hw0.block b hblt HNB.out).trans HBK.out; have m1 : w'.cell? ⟨b, 16, none⟩ = some (.slice l.pa x.parts.length l.pc) := cell_of_blk hbk 16; have m2 := frozen_of_blk hbk 16; have m3 : w'.cell? ⟨b, 17, none⟩ = some (.int .i64 x.dn) := cell_of_blk hbk 17; have m4 := frozen_of_blk hbk 17; clear hj hw ho hn' hw0 hbk c16 f16)
  go_end0
  obtain ⟨ρ', h1, h2, h3⟩ := H.out.ahead (ps := ps) (g0 := w.heap.size) HB0.out (Nat.le_refl _) (by rw [HS0.out]; omega) HV.out HW.out rfl
  rw [List.length_append] at h2 h3
  exact ⟨rfl, ρ', _, h1, h2, h3⟩

end Go.Proofs.Ytjfinnjmcnjciaa
