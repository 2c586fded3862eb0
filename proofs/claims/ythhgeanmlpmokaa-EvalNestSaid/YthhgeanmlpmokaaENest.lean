/-
  EvalNest, walked.
-/
import Derived.Test.YthhgeanmlpmokaaNestP
import Derived.Test.YthhgeanmlpmokaaBlocks
import Derived.Deep.RegionHeld3
import Derived.Deep.DrawnRows
import Derived.IntWalk
namespace Go.Proofs.Ythhgeanmlpmokaa
open Go.RowKit
set_option linter.unusedVariables false

theorem cell_one_lit (w : World) (a : Value) (t : TypeId) : ∀ j u, [a][j]? = some u → (w.alloc (.cells #[a] t)).cell? ((⟨w.heap.size, 0, none⟩ : Addr).add j) = some u := by
  intro j u hj
  rw [add_at, Nat.zero_add, World.cell?_alloc_at _ _ _ _ rfl]
  simpa using hj
theorem one_one (a : Int) : ∀ u ∈ [Value.int .i64 a], u.oneCell' = true := by
  intro u hu
  simp only [List.mem_cons, List.not_mem_nil, or_false] at hu
  subst hu; rfl
theorem wpList_append_one {P : Program} {ops : Array Oper} {rest : List Oper} {o : Oper} {a : Act} {W : World} {Q : Exit → Act → World → Prop} (hgd : o.guard = none) (s x : Operand) (t : TypeId)
    (ho : o.op = .call { callee := .builtin .append, args := #[s, x], argTypes := #[t, t] })
    {B : Nat} {e : TypeId} {iI : TypeInfo} (ht : P.underlying t = some (.slice e)) (hi : P.info? e = some iI) (hz : iI.zero = some (.int .i64 0)) (hsize : iI.size = 1) (hby : iI.bytes = 8)
    {v : Value} {n : Nat} {xs : List Value} (hs : a.eval s = v) (hown : W.ownsRow B e 1 v n xs) (p : Int) (hx : a.eval x = .slice (some ⟨W.heap.size, 0, none⟩) 1 1)
    (h6 : n + 1 ≤ maxLen) (h7 : (n + 1) * 8 ≤ 140737488355328) (hB : B ≤ W.heap.size)
    (h : ∀ v' w', w'.ownsRow B e 1 v' (n + 1) (xs ++ [.int .i64 p]) → (v'.ownBlock = v.ownBlock ∨ v'.ownBlock = some (W.heap.size + 1)) → Wrote (fun b => v.ownBlock = some b) W w' → wpList P ops Q rest (a.put o.dst v') w') :
    wpList P ops Q (o :: rest) a (W.alloc (.cells #[.int .i64 p] e)) := by
  refine wpList_append_own_at _ hgd s x t ho B e iI (.int .i64 0) 1 8 ht hi hz hsize hby rfl (by decide) v n xs hs (hown.alloc _) ⟨W.heap.size, 0, none⟩ 1 1 [.int .i64 p] hx rfl (cell_one_lit _ _ _) (one_one _) h6 h7 (Nat.le_trans hB (bnew (bid W) _).size) ?_
  intro v' w' hown' hg _ hat
  refine h v' w' hown' (by rw [size_alloc1] at hat; exact hat) ?_
  exact ((Wrote.refl _ W).alloc _).grown hg fun j hj _ => hj

theorem append_ins_at {P : Program} {ops : Array Oper} {rest : List Oper} {o : Oper} {a : Act} {W : World} {Q : Exit → Act → World → Prop} (hgd : o.guard = none) (s x : Operand) (t : TypeId)
    (ho : o.op = .call { callee := .builtin .append, args := #[s, x], argTypes := #[t, t] })
    {B : Nat} {e : TypeId} {iI : TypeInfo} {z : Value} (ht : P.underlying t = some (.slice e)) (hi : P.info? e = some iI) (hz : iI.zero = some z) (hzs : z.cells.size = 5) (hsize : iI.size = 5) (hby : iI.bytes = 40)
    {v : Value} {n : Nat} {ps : List Ins} (hs : a.eval s = v) (hown : W.ownsRow B e 5 v n (insCells ps)) (p q r u y : Int) (H : Nat) (hH : W.heap.size = H) (hx : a.eval x = .slice (some ⟨H, 0, none⟩) 1 1)
    (h6 : n + 1 ≤ maxLen) (h7 : (n + 1) * 40 ≤ 140737488355328) (hB : B ≤ W.heap.size)
    (h : ∀ v' w', w'.ownsRow B e 5 v' (n + 1) (insCells (ps ++ [⟨p, q, r, u, y⟩])) → (v'.ownBlock = v.ownBlock ∨ v'.ownBlock = some (W.heap.size + 1)) → Wrote (fun b => v.ownBlock = some b) W w' → wpList P ops Q rest (a.put o.dst v') w') :
    wpList P ops Q (o :: rest) a (W.alloc (.cells #[.int .i64 p, .int .i64 q, .int .i64 r, .int .i64 u, .int .i64 y] e)) := by
  subst hH
  exact wpList_append_ins hgd s x t ho ht hi hz hzs hsize hby hs hown p q r u y hx h6 h7 hB h
theorem append_one_at {P : Program} {ops : Array Oper} {rest : List Oper} {o : Oper} {a : Act} {W : World} {Q : Exit → Act → World → Prop} (hgd : o.guard = none) (s x : Operand) (t : TypeId)
    (ho : o.op = .call { callee := .builtin .append, args := #[s, x], argTypes := #[t, t] })
    {B : Nat} {e : TypeId} {iI : TypeInfo} (ht : P.underlying t = some (.slice e)) (hi : P.info? e = some iI) (hz : iI.zero = some (.int .i64 0)) (hsize : iI.size = 1) (hby : iI.bytes = 8)
    {v : Value} {n : Nat} {xs : List Value} (hs : a.eval s = v) (hown : W.ownsRow B e 1 v n xs) (p : Int) (H : Nat) (hH : W.heap.size = H) (hx : a.eval x = .slice (some ⟨H, 0, none⟩) 1 1)
    (h6 : n + 1 ≤ maxLen) (h7 : (n + 1) * 8 ≤ 140737488355328) (hB : B ≤ W.heap.size)
    (h : ∀ v' w', w'.ownsRow B e 1 v' (n + 1) (xs ++ [.int .i64 p]) → (v'.ownBlock = v.ownBlock ∨ v'.ownBlock = some (W.heap.size + 1)) → Wrote (fun b => v.ownBlock = some b) W w' → wpList P ops Q rest (a.put o.dst v') w') :
    wpList P ops Q (o :: rest) a (W.alloc (.cells #[.int .i64 p] e)) := by
  subst hH
  exact wpList_append_one hgd s x t ho ht hi hz hsize hby hs hown p hx h6 h7 hB h

def shuts (os : List Int) (st : List Nat) : List Value := st.map fun q => .int .i64 (shut (os.getD q 0))
theorem shuts_len (os : List Int) (st : List Nat) : (shuts os st).length = st.length * 1 := by simp [shuts]
theorem shuts_snoc (os : List Int) (st : List Nat) (q : Nat) : shuts os (st ++ [q]) = shuts os st ++ [.int .i64 (shut (os.getD q 0))] := by simp [shuts]
theorem shuts_more {os : List Int} {st : List Nat} (h : ∀ q ∈ st, q < os.length) (o : Int) : shuts (os ++ [o]) st = shuts os st := by
  unfold shuts
  refine List.map_congr_left fun q hq => ?_
  rw [getD_left _ _ _ (h q hq)]
theorem opsOf_snoc (ps : List Ins) (i : Ins) : opsOf (ps ++ [i]) = opsOf ps ++ [i.op] := by simp [opsOf]

/-- The state while the program is built. -/
structure NestAt (w : World) (ps : List Ins) (st : List Nat) (vp vo : Value) (wr : World) : Prop where
  prog : wr.ownsRow w.heap.size 27 5 vp ps.length (insCells ps)
  stack : wr.ownsRow w.heap.size 3 1 vo st.length (shuts (opsOf ps) st)
  apart : ∀ b, vp.ownBlock = some b → vo.ownBlock ≠ some b
  nest : Nest (opsOf ps) st
  below : Below w.heap.size w wr
theorem NestAt.start (w : World) : NestAt w [] [] (.slice none 0 0) (.slice none 0 0) w :=
  ⟨World.ownsRow_nil _ _ _ _, World.ownsRow_nil _ _ _ _, by simp [Value.ownBlock], .nil, bid w⟩
theorem opsOf_len (ps : List Ins) : (opsOf ps).length = ps.length := by simp [opsOf]

theorem NestAt.pushed {w wr W1 w2 W3 w4 : World} {ps : List Ins} {st : List Nat} {vp vo vp' vo' : Value} {i : Ins} (h : NestAt w ps st vp vo wr) (ho : isIn i.op = true) (h1 : Below wr.heap.size wr W1)
    (hp : w2.ownsRow w.heap.size 27 5 vp' (ps.length + 1) (insCells (ps ++ [i]))) (hpa : vp'.ownBlock = vp.ownBlock ∨ vp'.ownBlock = some (W1.heap.size + 1)) (hpw : Wrote (fun b => vp.ownBlock = some b) W1 w2)
    (h3 : Below w2.heap.size w2 W3)
    (hq : w4.ownsRow w.heap.size 3 1 vo' (st.length + 1) (shuts (opsOf ps) st ++ [.int .i64 (shut i.op)])) (hqa : vo'.ownBlock = vo.ownBlock ∨ vo'.ownBlock = some (W3.heap.size + 1)) (hqw : Wrote (fun b => vo.ownBlock = some b) W3 w4) :
    NestAt w (ps ++ [i]) (st ++ [ps.length]) vp' vo' w4 := by
  have s1 := h1.size
  have s2 := hpw.size
  have s3 := h3.size
  have hb := h.below.size
  have hvo := h.stack.lt
  have hvp := h.prog.lt
  have hn : Nest (opsOf (ps ++ [i])) (st ++ [ps.length]) := by
    rw [opsOf_snoc]
    have := Nest.push i.op h.nest ho
    rw [opsOf_len] at this
    exact this
  have hvp' := hp.lt
  refine ⟨?_, ?_, ?_, hn, ?_⟩
  · rw [List.length_append]
    refine own_wrote hp ((Wrote.of_below h3 (fun b => vo.ownBlock = some b)).trans hqw) fun x hx e => ?_
    rcases hpa with e1 | e1
    · rw [e1] at hx
      exact h.apart x hx e
    · rw [e1] at hx
      cases hx
      have := (hvo _ e).2
      omega
  · rw [shuts_snoc, List.length_append, opsOf_snoc, shuts_more (fun q hq => (h.nest.open_ q hq).1), ← opsOf_len ps, getD_mid]
    exact hq
  · intro b hx e
    rcases hqa with e1 | e1
    · rw [e1] at e
      rcases hpa with e2 | e2
      · rw [e2] at hx; exact h.apart b hx e
      · rw [e2] at hx; cases hx
        have := (hvo _ e).2
        omega
    · rw [e1] at e
      cases e
      have := (hvp' _ hx).2
      omega
  · have b1 := bthen h.below h1
    have b2 := b1.trans (hpw.below (by omega) fun j hj e => by have := (hvp _ e).1; omega)
    have b3 := bthen b2 h3
    exact b3.trans (hqw.below (by have := b2.size; omega) fun j hj e => by have := (hvo _ e).1; omega)

theorem NestAt.popped {w wr w2 : World} {ps : List Ins} {st : List Nat} {la : Nat} {vp vp' : Value} {i : Ins} {g cap : Nat} (h : NestAt w ps (st ++ [la]) vp (.slice (some ⟨g, 0, none⟩) (st.length + 1) cap) wr) (ho : i.op = shut ((opsOf ps).getD la 0))
    (hp : w2.ownsRow w.heap.size 27 5 vp' (ps.length + 1) (insCells (ps ++ [i]))) (hpa : vp'.ownBlock = vp.ownBlock ∨ vp'.ownBlock = some (wr.heap.size + 1)) (hpw : Wrote (fun b => vp.ownBlock = some b) wr w2) :
    NestAt w (ps ++ [i]) st vp' (.slice (some ⟨g, 0, none⟩) st.length cap) w2 := by
  have hvo := h.stack.lt
  have hvp := h.prog.lt
  have hn := Nest.pop h.nest
  rw [← ho, ← opsOf_snoc] at hn
  refine ⟨by rw [List.length_append]; exact hp, ?_, ?_, hn, ?_⟩
  · have hk := own_wrote h.stack hpw (fun x hx e => h.apart x e hx)
    rw [shuts_snoc, List.length_append] at hk
    rw [opsOf_snoc, shuts_more (fun q hq => (h.nest.open_ q (by simp [hq])).1)]
    exact ownsRow_pop (shuts_len _ _) hk
  · intro b hx e
    rcases hpa with e2 | e2
    · rw [e2] at hx; exact h.apart b hx e
    · rw [e2] at hx; cases hx
      have := (hvo _ e).2
      omega
  · exact h.below.trans (hpw.below h.below.size fun j hj e => by have := (hvp _ e).1; omega)


def lenOf : Value → Nat
  | .slice _ n _ => n
  | _ => 0

set_option maxRecDepth 100000 in
set_option maxHeartbeats 4000000 in
theorem nest_none (a : Option Addr) (n c : Nat) (out : Int) (w : World) (hn : n < 1 ∨ 12 < n) :
    Calls Try.prog 3 #[.slice a n c, .int .i64 out] w fun e w' => e = .returned (.bool true) ∧ Below w.heap.size w w' := by
  rcases hn with hn | hn
  · have i1 : (n : Int) < 1 := by omega
    go_enter Try.func3, Try.ntmps3
    go_wp2_with (go_at_call 4; refine (told_any _).mono ?_; rintro e w4 ⟨rfl, hb4⟩)
    go_ret
    exact ⟨rfl, hb4⟩
  · have i1 : ¬ (n : Int) < 1 := by omega
    have i2 : (12 : Int) < (n : Int) := by omega
    go_enter Try.func3, Try.ntmps3
    go_wp2_with (go_at_call 4; refine (told_any _).mono ?_; rintro e w4 ⟨rfl, hb4⟩)
    go_ret
    exact ⟨rfl, hb4⟩

theorem insRow_cells {W : World} {b off : Nat} {ps : List Ins} (h : ∀ k i, ps[k]? = some i → InsAt W b (off + k * 5) i) : ∀ j u, (insCells ps)[j]? = some u → W.cell? ⟨b, off + j, none⟩ = some u := by
  intro j u hj
  have hl : j < ps.length * 5 := by rw [← insCells_len]; exact (List.getElem?_eq_some_iff.1 hj).1
  have hk : j / 5 < ps.length := by omega
  obtain ⟨g0, g1, g2, g3, g4⟩ := insCells_at ps (j / 5) _ (List.getElem?_eq_getElem hk)
  have ha := h (j / 5) _ (List.getElem?_eq_getElem hk)
  have hj5 : j = j / 5 * 5 + j % 5 := by omega
  have h5 : j % 5 = 0 ∨ j % 5 = 1 ∨ j % 5 = 2 ∨ j % 5 = 3 ∨ j % 5 = 4 := by omega
  rcases h5 with e | e | e | e | e <;> rw [e] at hj5 <;> rw [hj5] at hj ⊢
  · rw [Nat.add_zero] at hj ⊢; rw [g0] at hj; cases hj; exact ha.c0
  · rw [g1] at hj; cases hj; rw [← Nat.add_assoc]; exact ha.c1
  · rw [g2] at hj; cases hj; rw [← Nat.add_assoc]; exact ha.c2
  · rw [g3] at hj; cases hj; rw [← Nat.add_assoc]; exact ha.c3
  · rw [g4] at hj; cases hj; rw [← Nat.add_assoc]; exact ha.c4
theorem insCells_one (ps : List Ins) : ∀ u ∈ insCells ps, u.oneCell' = true := by
  intro u hu
  simp only [insCells, List.mem_flatMap] at hu
  obtain ⟨i, _, hu⟩ := hu
  simp only [List.mem_cons, List.not_mem_nil, or_false] at hu
  rcases hu with rfl | rfl | rfl | rfl | rfl <;> rfl
theorem insCells_app (a b : List Ins) : insCells (a ++ b) = insCells a ++ insCells b := by simp [insCells]
theorem insCells_take (ps : List Ins) (k : Nat) : insCells (ps.take k) = (insCells ps).take (k * 5) := by
  induction ps generalizing k with
  | nil => simp [insCells]
  | cons p l ih =>
    cases k with
    | zero => simp [insCells]
    | succ k =>
      have e : (k + 1) * 5 = k * 5 + 1 + 1 + 1 + 1 + 1 := by omega
      have h1 : insCells (p :: l) = .int .i64 p.op :: .int .i64 p.a :: .int .i64 p.b :: .int .i64 p.c :: .int .i64 p.n :: insCells l := by simp [insCells]
      have h2 : insCells ((p :: l).take (k + 1)) = .int .i64 p.op :: .int .i64 p.a :: .int .i64 p.b :: .int .i64 p.c :: .int .i64 p.n :: insCells (l.take k) := by simp [insCells]
      rw [h2, h1, ih, e]
      simp
theorem insCells_drop (ps : List Ins) (k : Nat) : insCells (ps.drop k) = (insCells ps).drop (k * 5) := by
  induction ps generalizing k with
  | nil => simp [insCells]
  | cons p l ih =>
    cases k with
    | zero => simp
    | succ k =>
      have e : (k + 1) * 5 = k * 5 + 1 + 1 + 1 + 1 + 1 := by omega
      have h1 : insCells (p :: l) = .int .i64 p.op :: .int .i64 p.a :: .int .i64 p.b :: .int .i64 p.c :: .int .i64 p.n :: insCells l := by simp [insCells]
      rw [List.drop_succ_cons, ih, h1, e]
      simp

theorem wp_append_own {P : Program} {o : Oper} {a : Act} {w : World} {K : Act → World → Prop} {Q : Exit → Act → World → Prop} (s x : Operand) (t : TypeId)
    (ho : o.op = .call { callee := .builtin .append, args := #[s, x], argTypes := #[t, t] })
    (base : Nat) (e : TypeId) (i : TypeInfo) (z : Value) (size bytes : Nat) (ht : P.underlying t = some (.slice e)) (hi : P.info? e = some i) (hz : i.zero = some z)
    (hsize : i.size = size) (hby : i.bytes = bytes) (hzs : z.cells.size = size) (hsz : 0 < size)
    (v : Value) (n : Nat) (xs : List Value) (hs : a.eval s = v) (hown : w.ownsRow base e size v n xs)
    (ad : Addr) (m c : Nat) (news : List Value) (hx : a.eval x = .slice (some ad) m c) (hl : news.length = m * size) (hnews : ∀ j u, news[j]? = some u → w.cell? (ad.add j) = some u) (h1 : ∀ u ∈ news, u.oneCell' = true)
    (h63 : n + m ≤ maxLen) (hbytes : (n + m) * bytes ≤ 140737488355328) (hbase : base ≤ w.heap.size)
    (h : ∀ v' w', w'.ownsRow base e size v' (n + m) (xs ++ news) → w.grownBy w' v.ownBlock → (v'.ownBlock = v.ownBlock ∨ v'.ownBlock = some w.heap.size) → K (a.put o.dst v') w') : o.wp P a w K Q := by
  obtain ⟨v', w', hr, h2, h3, h4, h5⟩ := run_append_own_at (P := P) w base t o.type e i z size bytes ht hi hz hsize hby hzs hsz v n xs hown ad m c news hl hnews h1 h63 hbytes hbase
  unfold Oper.wp execOp
  simp only [ho, resolve, invoke, builtin, Sem.run_bind, Sem.run_pure, Result.andThen_ok, List.map_toArray, List.map_cons, List.map_nil, hs, hx, hr]
  exact h _ _ h2 h3 h5

set_option maxRecDepth 100000 in
set_option maxHeartbeats 8000000 in
theorem nest_walk (a : Option Addr) (n c : Nat) (zs : List Int) (out : Int) (w : World) (hr : IntRow w a n zs) (h1 : 1 ≤ n) (h2 : n ≤ 12) :
    Calls Try.prog 3 #[.slice a n c, .int .i64 out] w fun e w' => e = .returned (.bool true) ∧ Below w.heap.size w w' := by
  obtain ⟨iI, hi, hz0, hz1, hz2⟩ := info_parts infoIns
  obtain ⟨iJ, hj, hy0, hy1, hy2⟩ := info_parts infoInt
  have HR := hid hr
  clear hr
  have i1 : ¬ (n : Int) < 1 := by omega
  have i2 : ¬ (12 : Int) < (n : Int) := by omega
  go_enter Try.func3, Try.ntmps3
  go_wp2
  clear i1 i2
  go_loopw [5, 6, 7] (fun vp vo i wr => ∃ (k : Nat) (ps : List Ins) (st : List Nat), ps.length = k ∧ k ≤ n ∧ st.length ≤ k ∧ i = .int .i64 k ∧ NestAt w ps st vp vo wr) (fun _ _ i _ => n - (intOf i).toNat)
  case atStart => exact ⟨0, [], [], rfl, Nat.zero_le _, Nat.zero_le _, rfl, NestAt.start w⟩
  case round =>
    obtain ⟨k, ps, st, hps, hk, hst, rfl, hx⟩ := hrel
    have HX := hid hx
    have HPS := hid hps
    clear hx hps
    by_cases hlt : k < n
    case pos =>
      obtain ⟨b, off, rfl, hb, hc⟩ := HR.out.at (by omega)
      have hz := hc k hlt
      rw [← World.cell?_of_block (w := w) (w' := wr) (HX.out.below.block b hb)] at hz
      generalize zs.getD k 0 = z at hz
      clear hc hb
      have hp := u64_pos z
      obtain ⟨q, hq⟩ : ∃ q, IntKind.u64.wrap z % 4 = q := ⟨_, rfl⟩
      have hq4 : q = 0 ∨ q = 1 ∨ q = 2 ∨ q = 3 := by omega
      have j1 : (0 : Int) ≤ (k : Int) := by omega
      have j2 : (k : Int) < (n : Int) := by omega
      have E6 : Hid (ps.length + 1 ≤ maxLen) := hid (by rw [HPS.out]; unfold maxLen; omega)
      have E7 : Hid ((ps.length + 1) * 40 ≤ 140737488355328) := hid (by rw [HPS.out]; omega)
      have F6 : Hid (st.length + 1 ≤ maxLen) := hid (by unfold maxLen; omega)
      have F7 : Hid ((st.length + 1) * 8 ≤ 140737488355328) := hid (by omega)
      rcases nil_or_snoc st with rfl | ⟨t, la, rfl⟩
      · obtain ⟨va, vc, rfl⟩ : ∃ va vc, u6 = .slice va 0 vc := by
          rcases HX.out.stack.2 with ⟨e, _⟩ | ⟨g, cap, cur, e, _⟩
          · exact ⟨_, _, e⟩
          · exact ⟨_, _, e⟩
        rcases hq4 with rfl | rfl | rfl | rfl
        · go_wp2_with (first | (at_builtin; refine append_ins_at rfl (.tmp 61) (.tmp 67) 24 rfl Try.underlying24 hi hz0 rfl hz1 hz2 rfl (HX.out.prog.alloc _) _ _ _ _ _ _ (size_alloc1 _ _) rfl E6.out E7.out (bnew HX.out.below _).size ?_; intro v1 w2 hp1 hpa1 hpw1; have HP1 := hid (And.intro hp1 (And.intro hpa1 hpw1)); clear hp1 hpa1 hpw1) | (at_builtin; go_must (refine append_one_at rfl (.tmp 69) (.tmp 74) 22 rfl Try.underlying22 hj hy0 hy1 hy2 rfl ((own_wrote HX.out.stack (((Wrote.refl _ wr).alloc _).trans HP1.out.2.2) (fun x hx e => HX.out.apart x e hx)).alloc _) _ _ (size_alloc1 _ _) rfl F6.out F7.out (Nat.le_trans (Nat.le_trans (bnew HX.out.below _).size HP1.out.2.2.size) (bnew (bid _) _).size) ?_; intro v2 w4 hq1 hqa1 hqw1; have HN := hid (HX.out.pushed (i := ⟨18, 0, 0, 0, 0⟩) (by decide) (bnew (bid _) _) HP1.out.1 HP1.out.2.1 HP1.out.2.2 (bnew (bid _) _) hq1 hqa1 hqw1); clear hq1 hqa1 hqw1)))
          first
            | exact ⟨⟨k + 1, _, _, by rw [List.length_append, HPS.out]; rfl, by omega, by rw [List.length_append]; first | (simp; done) | (simp at hst ⊢; omega), by go_num, HN.out⟩, by simp [intOf]; omega⟩
            | (go_roundw
               case rel => exact ⟨k + 1, _, _, by rw [List.length_append, HPS.out]; rfl, by omega, by rw [List.length_append]; first | (simp; done) | (simp at hst ⊢; omega), by go_num, HN.out⟩
               case measure => simp [intOf]; omega)
        · go_wp2_with (first | (at_builtin; refine append_ins_at rfl (.tmp 61) (.tmp 67) 24 rfl Try.underlying24 hi hz0 rfl hz1 hz2 rfl (HX.out.prog.alloc _) _ _ _ _ _ _ (size_alloc1 _ _) rfl E6.out E7.out (bnew HX.out.below _).size ?_; intro v1 w2 hp1 hpa1 hpw1; have HP1 := hid (And.intro hp1 (And.intro hpa1 hpw1)); clear hp1 hpa1 hpw1) | (at_builtin; go_must (refine append_one_at rfl (.tmp 69) (.tmp 74) 22 rfl Try.underlying22 hj hy0 hy1 hy2 rfl ((own_wrote HX.out.stack (((Wrote.refl _ wr).alloc _).trans HP1.out.2.2) (fun x hx e => HX.out.apart x e hx)).alloc _) _ _ (size_alloc1 _ _) rfl F6.out F7.out (Nat.le_trans (Nat.le_trans (bnew HX.out.below _).size HP1.out.2.2.size) (bnew (bid _) _).size) ?_; intro v2 w4 hq1 hqa1 hqw1; have HN := hid (HX.out.pushed (i := ⟨21, 0, 0, 0, 0⟩) (by decide) (bnew (bid _) _) HP1.out.1 HP1.out.2.1 HP1.out.2.2 (bnew (bid _) _) hq1 hqa1 hqw1); clear hq1 hqa1 hqw1)))
          first
            | exact ⟨⟨k + 1, _, _, by rw [List.length_append, HPS.out]; rfl, by omega, by rw [List.length_append]; first | (simp; done) | (simp at hst ⊢; omega), by go_num, HN.out⟩, by simp [intOf]; omega⟩
            | (go_roundw
               case rel => exact ⟨k + 1, _, _, by rw [List.length_append, HPS.out]; rfl, by omega, by rw [List.length_append]; first | (simp; done) | (simp at hst ⊢; omega), by go_num, HN.out⟩
               case measure => simp [intOf]; omega)
        · go_wp2_with (first | (at_builtin; refine append_ins_at rfl (.tmp 61) (.tmp 67) 24 rfl Try.underlying24 hi hz0 rfl hz1 hz2 rfl (HX.out.prog.alloc _) _ _ _ _ _ _ (size_alloc1 _ _) rfl E6.out E7.out (bnew HX.out.below _).size ?_; intro v1 w2 hp1 hpa1 hpw1; have HP1 := hid (And.intro hp1 (And.intro hpa1 hpw1)); clear hp1 hpa1 hpw1) | (at_builtin; go_must (refine append_one_at rfl (.tmp 69) (.tmp 74) 22 rfl Try.underlying22 hj hy0 hy1 hy2 rfl ((own_wrote HX.out.stack (((Wrote.refl _ wr).alloc _).trans HP1.out.2.2) (fun x hx e => HX.out.apart x e hx)).alloc _) _ _ (size_alloc1 _ _) rfl F6.out F7.out (Nat.le_trans (Nat.le_trans (bnew HX.out.below _).size HP1.out.2.2.size) (bnew (bid _) _).size) ?_; intro v2 w4 hq1 hqa1 hqw1; have HN := hid (HX.out.pushed (i := ⟨13, 0, 0, 0, 0⟩) (by decide) (bnew (bid _) _) HP1.out.1 HP1.out.2.1 HP1.out.2.2 (bnew (bid _) _) hq1 hqa1 hqw1); clear hq1 hqa1 hqw1)))
          first
            | exact ⟨⟨k + 1, _, _, by rw [List.length_append, HPS.out]; rfl, by omega, by rw [List.length_append]; first | (simp; done) | (simp at hst ⊢; omega), by go_num, HN.out⟩, by simp [intOf]; omega⟩
            | (go_roundw
               case rel => exact ⟨k + 1, _, _, by rw [List.length_append, HPS.out]; rfl, by omega, by rw [List.length_append]; first | (simp; done) | (simp at hst ⊢; omega), by go_num, HN.out⟩
               case measure => simp [intOf]; omega)
        · go_wp2_with (first | (at_builtin; refine append_ins_at rfl (.tmp 61) (.tmp 67) 24 rfl Try.underlying24 hi hz0 rfl hz1 hz2 rfl (HX.out.prog.alloc _) _ _ _ _ _ _ (size_alloc1 _ _) rfl E6.out E7.out (bnew HX.out.below _).size ?_; intro v1 w2 hp1 hpa1 hpw1; have HP1 := hid (And.intro hp1 (And.intro hpa1 hpw1)); clear hp1 hpa1 hpw1) | (at_builtin; go_must (refine append_one_at rfl (.tmp 69) (.tmp 74) 22 rfl Try.underlying22 hj hy0 hy1 hy2 rfl ((own_wrote HX.out.stack (((Wrote.refl _ wr).alloc _).trans HP1.out.2.2) (fun x hx e => HX.out.apart x e hx)).alloc _) _ _ (size_alloc1 _ _) rfl F6.out F7.out (Nat.le_trans (Nat.le_trans (bnew HX.out.below _).size HP1.out.2.2.size) (bnew (bid _) _).size) ?_; intro v2 w4 hq1 hqa1 hqw1; have HN := hid (HX.out.pushed (i := ⟨18, 0, 0, 0, 0⟩) (by decide) (bnew (bid _) _) HP1.out.1 HP1.out.2.1 HP1.out.2.2 (bnew (bid _) _) hq1 hqa1 hqw1); clear hq1 hqa1 hqw1)))
          first
            | exact ⟨⟨k + 1, _, _, by rw [List.length_append, HPS.out]; rfl, by omega, by rw [List.length_append]; first | (simp; done) | (simp at hst ⊢; omega), by go_num, HN.out⟩, by simp [intOf]; omega⟩
            | (go_roundw
               case rel => exact ⟨k + 1, _, _, by rw [List.length_append, HPS.out]; rfl, by omega, by rw [List.length_append]; first | (simp; done) | (simp at hst ⊢; omega), by go_num, HN.out⟩
               case measure => simp [intOf]; omega)
      · have hl1 : (t ++ [la]).length = t.length + 1 := by simp
        have HO := hid HX.out.stack
        rw [hl1, shuts_snoc] at HO
        obtain ⟨g, cap, hv, -, -⟩ := World.ownsRow.form HO.out (by omega)
        subst hv
        have hl2 : (shuts (opsOf ps) t).length = t.length := by simp [shuts]
        have cl : wr.cell? ⟨g, t.length, none⟩ = some (.int .i64 (shut ((opsOf ps).getD la 0))) := (HO.out.cellAt t.length (by omega)).trans (by rw [List.getElem?_append_right (by omega), hl2, Nat.sub_self]; rfl)
        obtain ⟨sh, hsh⟩ : ∃ sh, sh = shut ((opsOf ps).getD la 0) := ⟨_, rfl⟩
        rw [← hsh] at cl
        have HSH := hid hsh
        have s3 : (0 : Int) ≤ (t.length : Int) := by omega
        have s5 : (t.length : Int) < (t.length : Int) + 1 := by omega
        have s4 : (t.length : Int) ≤ 100 := by rw [hl1] at hst; omega
        have s6 : t.length ≤ cap := by
          rcases HO.out.2 with ⟨e, _⟩ | ⟨g', cap', cur, e, _, _, e2, _⟩
          · cases e
          · cases e; omega
        have s7 : (t.length : Int) ≤ (cap : Int) := by omega
        rw [hl1] at F6 F7
        clear hl1 hl2 hsh
        rcases hq4 with rfl | rfl | rfl | rfl
        · go_wp2_with (first | (at_builtin; refine append_ins_at rfl (.tmp 61) (.tmp 67) 24 rfl Try.underlying24 hi hz0 rfl hz1 hz2 rfl (HX.out.prog.alloc _) _ _ _ _ _ _ (size_alloc1 _ _) rfl E6.out E7.out (bnew HX.out.below _).size ?_; intro v1 w2 hp1 hpa1 hpw1; have HP1 := hid (And.intro hp1 (And.intro hpa1 hpw1)); clear hp1 hpa1 hpw1) | (at_builtin; go_must (refine append_one_at rfl (.tmp 69) (.tmp 74) 22 rfl Try.underlying22 hj hy0 hy1 hy2 rfl ((own_wrote HO.out (((Wrote.refl _ wr).alloc _).trans HP1.out.2.2) (fun x hx e => HX.out.apart x e hx)).alloc _) _ _ (size_alloc1 _ _) rfl F6.out F7.out (Nat.le_trans (Nat.le_trans (bnew HX.out.below _).size HP1.out.2.2.size) (bnew (bid _) _).size) ?_; intro v2 w4 hq1 hqa1 hqw1; have HN := hid (HX.out.pushed (i := ⟨18, 0, 0, 0, 0⟩) (by decide) (bnew (bid _) _) HP1.out.1 HP1.out.2.1 HP1.out.2.2 (bnew (bid _) _) (by rw [shuts_snoc, List.length_append]; exact hq1) hqa1 hqw1); clear hq1 hqa1 hqw1)))
          first
            | exact ⟨⟨k + 1, _, _, by rw [List.length_append, HPS.out]; rfl, by omega, by rw [List.length_append]; first | (simp; done) | (simp at hst ⊢; omega), by go_num, HN.out⟩, by simp [intOf]; omega⟩
            | (go_roundw
               case rel => exact ⟨k + 1, _, _, by rw [List.length_append, HPS.out]; rfl, by omega, by rw [List.length_append]; first | (simp; done) | (simp at hst ⊢; omega), by go_num, HN.out⟩
               case measure => simp [intOf]; omega)
        · go_wp2_with (first | (at_builtin; refine append_ins_at rfl (.tmp 61) (.tmp 67) 24 rfl Try.underlying24 hi hz0 rfl hz1 hz2 rfl (HX.out.prog.alloc _) _ _ _ _ _ _ (size_alloc1 _ _) rfl E6.out E7.out (bnew HX.out.below _).size ?_; intro v1 w2 hp1 hpa1 hpw1; have HP1 := hid (And.intro hp1 (And.intro hpa1 hpw1)); clear hp1 hpa1 hpw1) | (at_builtin; go_must (refine append_one_at rfl (.tmp 69) (.tmp 74) 22 rfl Try.underlying22 hj hy0 hy1 hy2 rfl ((own_wrote HO.out (((Wrote.refl _ wr).alloc _).trans HP1.out.2.2) (fun x hx e => HX.out.apart x e hx)).alloc _) _ _ (size_alloc1 _ _) rfl F6.out F7.out (Nat.le_trans (Nat.le_trans (bnew HX.out.below _).size HP1.out.2.2.size) (bnew (bid _) _).size) ?_; intro v2 w4 hq1 hqa1 hqw1; have HN := hid (HX.out.pushed (i := ⟨21, 0, 0, 0, 0⟩) (by decide) (bnew (bid _) _) HP1.out.1 HP1.out.2.1 HP1.out.2.2 (bnew (bid _) _) (by rw [shuts_snoc, List.length_append]; exact hq1) hqa1 hqw1); clear hq1 hqa1 hqw1)))
          first
            | exact ⟨⟨k + 1, _, _, by rw [List.length_append, HPS.out]; rfl, by omega, by rw [List.length_append]; first | (simp; done) | (simp at hst ⊢; omega), by go_num, HN.out⟩, by simp [intOf]; omega⟩
            | (go_roundw
               case rel => exact ⟨k + 1, _, _, by rw [List.length_append, HPS.out]; rfl, by omega, by rw [List.length_append]; first | (simp; done) | (simp at hst ⊢; omega), by go_num, HN.out⟩
               case measure => simp [intOf]; omega)
        · go_wp2_with (first | (at_builtin; refine append_ins_at rfl (.tmp 61) (.tmp 67) 24 rfl Try.underlying24 hi hz0 rfl hz1 hz2 rfl (HX.out.prog.alloc _) _ _ _ _ _ _ (size_alloc1 _ _) rfl E6.out E7.out (bnew HX.out.below _).size ?_; intro v1 w2 hp1 hpa1 hpw1; have HP1 := hid (And.intro hp1 (And.intro hpa1 hpw1)); clear hp1 hpa1 hpw1) | (at_builtin; go_must (refine append_one_at rfl (.tmp 69) (.tmp 74) 22 rfl Try.underlying22 hj hy0 hy1 hy2 rfl ((own_wrote HO.out (((Wrote.refl _ wr).alloc _).trans HP1.out.2.2) (fun x hx e => HX.out.apart x e hx)).alloc _) _ _ (size_alloc1 _ _) rfl F6.out F7.out (Nat.le_trans (Nat.le_trans (bnew HX.out.below _).size HP1.out.2.2.size) (bnew (bid _) _).size) ?_; intro v2 w4 hq1 hqa1 hqw1; have HN := hid (HX.out.pushed (i := ⟨13, 0, 0, 0, 0⟩) (by decide) (bnew (bid _) _) HP1.out.1 HP1.out.2.1 HP1.out.2.2 (bnew (bid _) _) (by rw [shuts_snoc, List.length_append]; exact hq1) hqa1 hqw1); clear hq1 hqa1 hqw1)))
          first
            | exact ⟨⟨k + 1, _, _, by rw [List.length_append, HPS.out]; rfl, by omega, by rw [List.length_append]; first | (simp; done) | (simp at hst ⊢; omega), by go_num, HN.out⟩, by simp [intOf]; omega⟩
            | (go_roundw
               case rel => exact ⟨k + 1, _, _, by rw [List.length_append, HPS.out]; rfl, by omega, by rw [List.length_append]; first | (simp; done) | (simp at hst ⊢; omega), by go_num, HN.out⟩
               case measure => simp [intOf]; omega)
        · go_wp2_with (at_builtin; go_must (refine wpList_append_ins rfl (.tmp 44) (.tmp 52) 24 rfl Try.underlying24 hi hz0 rfl hz1 hz2 rfl HX.out.prog _ _ _ _ _ rfl E6.out E7.out HX.out.below.size ?_; intro v1 w2 hp1 hpa1 hpw1; have HN := hid (HX.out.popped HSH.out hp1 hpa1 hpw1); clear hp1 hpa1 hpw1))
          first
            | exact ⟨⟨k + 1, _, _, by rw [List.length_append, HPS.out]; rfl, by omega, by simp at hst; omega, by go_num, HN.out⟩, by simp [intOf]; omega⟩
            | (go_roundw
               case rel => exact ⟨k + 1, _, _, by rw [List.length_append, HPS.out]; rfl, by omega, by simp at hst; omega, by go_num, HN.out⟩
               case measure => simp [intOf]; omega)
    case neg =>
      obtain rfl : k = n := by omega
      go_wp2
      have HL0 := hid (show ps.length + st.length ≤ 24 ∧ 1 ≤ ps.length by rw [HPS.out]; omega)
      clear hst HPS HR
      go_loopw [5, 6] (fun vp vo wr => ∃ (ps : List Ins) (st : List Nat), (ps.length + st.length ≤ 24 ∧ 1 ≤ ps.length) ∧ NestAt w ps st vp vo wr) (fun _ vo _ => lenOf vo)
      case atStart => exact ⟨ps, st, HL0.out, HX.out⟩
      case round =>
        clear HX HL0
        obtain ⟨ps, st, ⟨hl, hl1⟩, hx⟩ := hrel
        have HX := hid hx
        clear hx
        rcases nil_or_snoc st with rfl | ⟨t, la, rfl⟩
        · obtain ⟨va, vc, rfl⟩ : ∃ va vc, u6 = .slice va 0 vc := by
            rcases HX.out.stack.2 with ⟨e, _⟩ | ⟨g, cap, cur, e, _⟩
            · exact ⟨_, _, e⟩
            · exact ⟨_, _, e⟩
          obtain ⟨g, cap, hv, -, -⟩ := World.ownsRow.form HX.out.prog (by omega)
          subst hv
          obtain ⟨ms, e1, e2, e3⟩ := nest_mates HX.out.nest
          have HE1 := hid e1
          have HE3 := hid e3
          rw [opsOf_len] at e2
          have HLESS := hid (fun k hk => nest_less HX.out.nest k hk)
          have HI := hid (InsRow.of_own HX.out.prog)
          have HB := hid HX.out.below
          have HN := hid (show ps.length ≤ 100000 by omega)
          obtain ⟨N, hN⟩ : ∃ N, ps.length = N := ⟨_, rfl⟩
          rw [hN] at HI HN hl hl1 e2 ⊢
          have HNN := hid hN
          have HE2 := hid e2
          have n1 : (1 : Int) ≤ (N : Int) := by omega
          have n2 : (N : Int) ≤ 24 := by omega
          clear e1 e2 e3 hN
          go_upto_region 19 with (go_at_call 5; go_must ((with_reducible refine (Mates_any _ _ _ ps _ HI.out HN.out).mono ?_); rintro e w5 hm; unfold MatesRet at hm; rw [HE1.out] at hm; dsimp only at hm; rw [HE2.out] at hm; obtain ⟨a2, c2, rfl, hr2, _, hb2⟩ := hm; have H5 := hid (And.intro (HI.out.below hb2) (And.intro hr2 (bthen HB.out hb2))); clear hr2 hb2))
          obtain ⟨b2, o2, ha2, _, hc2⟩ := H5.out.2.1.at (by omega)
          subst ha2
          obtain ⟨b1, o1, ha1, _, hc1⟩ := H5.out.1.at (by omega)
          cases ha1
          have HC2 := hid hc2
          have HC1 := hid hc1
          clear hc1 hc2
          go_wp2
          go_loopw [11] (fun i wx => ∃ k : Nat, k ≤ N ∧ i = .int .i64 k ∧ wx = w5) (fun i _ => N - (intOf i).toNat)
          case atStart => exact ⟨0, Nat.zero_le _, rfl, rfl⟩
          case round =>
            obtain ⟨k, hk, rfl, rfl⟩ := hrel
            by_cases hlt : k < N
            · obtain ⟨⟨op, ia, ib, ic, iN⟩, hpi⟩ : ∃ i, ps[k]? = some i := ⟨_, List.getElem?_eq_getElem (by rw [HNN.out]; exact hlt)⟩
              have p0 := (HC1.out k _ hpi).c0
              rw [Nat.zero_add] at p0
              dsimp only at p0
              have hop := opsOf_at hpi
              dsimp only at hop
              have m0 := HC2.out k hlt
              have hg := HE3.out k (by rw [opsOf_len, HNN.out]; exact hlt)
              rw [hop] at hg
              have j1 : (0 : Int) ≤ (k : Int) := by omega
              have j2 : (k : Int) < (N : Int) := by omega
              have HK := hid hlt
              clear hpi hop hlt hk
              rcases hg with rfl | ⟨rfl, j, hj, hkj, hjn, hj20⟩ | ⟨h18, j, hj, hjn, hjk⟩
              · go_wp2
                go_roundw
                case rel => exact ⟨k + 1, by have := HK.out; omega, by go_num, by trivial⟩
                case measure => have := HK.out; simp [intOf]; omega
              · rw [hj] at m0
                rw [opsOf_len, HNN.out] at hjn
                obtain ⟨⟨jop, ja, jb, jc, jN⟩, hpj⟩ : ∃ i, ps[j]? = some i := ⟨_, List.getElem?_eq_getElem (by rw [HNN.out]; exact hjn)⟩
                have q0 := (HC1.out j _ hpj).c0
                rw [Nat.zero_add] at q0
                dsimp only at q0
                have hopj := opsOf_at hpj
                dsimp only at hopj
                rw [hj20] at hopj
                subst hopj
                have j3 : (0 : Int) ≤ (j : Int) := by omega
                have j4 : (j : Int) < (N : Int) := by omega
                have j5 : (k : Int) < (j : Int) := by omega
                clear hj hkj hjn hj20 hpj
                go_wp2
                go_roundw
                case rel => exact ⟨k + 1, by have := HK.out; omega, by go_num, by trivial⟩
                case measure => have := HK.out; simp [intOf]; omega
              · rw [hj] at m0
                rw [opsOf_len, HNN.out] at hjn
                have q0 := HC2.out j hjn
                rw [hjk] at q0
                have j3 : (0 : Int) ≤ (j : Int) := by omega
                have j4 : (j : Int) < (N : Int) := by omega
                have e18 : (op == 18) = false := by simpa using h18
                have e18' : (op != 18) = true := by simpa using h18
                clear hj hjn hjk h18
                cases e20 : (op == 20)
                all_goals
                  go_wp2
                  go_roundw
                  case rel => exact ⟨k + 1, by have := HK.out; omega, by go_num, by trivial⟩
                  case measure => have := HK.out; simp [intOf]; omega
            · obtain rfl : k = N := by omega
              clear hk hlt
              have ho := u64_pos out
              obtain ⟨K, hK⟩ : ∃ K : Nat, IntKind.u64.wrap out % (k : Int) = (K : Int) := ⟨(IntKind.u64.wrap out % (k : Int)).toNat, by have := Int.emod_nonneg (IntKind.u64.wrap out) (show (k : Int) ≠ 0 by omega); omega⟩
              have hK2 : (K : Int) < (k : Int) := by rw [← hK]; exact Int.emod_lt_of_pos _ (by omega)
              have hK1 : (0 : Int) ≤ (K : Int) := by omega
              have hcap : k ≤ cap := by
                rcases HX.out.prog.2 with ⟨e, _⟩ | ⟨g', cap', cur, e, _, _, e2, _⟩
                · cases e
                · cases e; have := HNN.out; omega
              have hKk : K < k := by omega
              have n3 : (k : Int) ≤ (cap : Int) := by omega
              have n4 : (0 : Int) ≤ (K : Int) + 1 := by omega
              have n5 : (K : Int) + 1 ≤ (k : Int) := by omega
              have n6 : (K : Int) + 1 ≤ (cap : Int) := by omega
              have n7 : (K : Int) ≤ (cap : Int) := by omega
              have hk24 : k ≤ 24 := by omega
              go_upto_region 28 with fail
              have HCC := hid (insRow_cells HC1.out)
              have HPL := hid (show (insCells ps).length = k * 5 by rw [insCells_len, HNN.out])
              have HLS := hid (HLESS.out K (by rw [opsOf_len, HNN.out]; exact hKk))
              have HK24 := hid hk24
              have HKk := hid hKk
              have HCAP := hid hcap
              have hw1 : IntKind.i64.wrap ((K : Int) + 1) = (K : Int) + 1 := IntWalk.i64_in _ (by omega)
              have hw2 : ((K : Int) + 1).toNat = K + 1 := by omega
              clear hk24 hKk hcap
              refine wp_region_noPanic ?_
              refine wp_region_held_drew (S := fun w' => Below wr.heap.size wr w') (by kernel_rfl) (bdrew (bid wr)) (fun hHeld => ?_)
              refine wpAnyH_take (i := 1) (v := ?_) rfl (by kernel_rfl) (by kernel_rfl) (by kernel_rfl) (fun _ _ _ h => h) (Or.inl ⟨by rfl, ?_⟩) (by assumption) ?_
              rotate_left
              · (intro w' hSw; (try dsimp only at hSw); go_simp; try (with_reducible rfl))
              (try simp only [Act.put, List.getElem_toArray, List.getElem_cons_zero, List.getElem_cons_succ, List.setIfInBounds_toArray, List.set_cons_zero, List.set_cons_succ])
              refine wpAnyH_take (i := 2) (v := ?_) rfl (by kernel_rfl) (by kernel_rfl) (by kernel_rfl) (fun _ _ _ h => h) (Or.inl ⟨by rfl, ?_⟩) (by assumption) ?_
              rotate_left
              · (intro w' hSw; (try dsimp only at hSw); go_simp; try (with_reducible rfl))
              (try simp only [Act.put, List.getElem_toArray, List.getElem_cons_zero, List.getElem_cons_succ, List.setIfInBounds_toArray, List.set_cons_zero, List.set_cons_succ])
              refine wpAnyH_take (i := 3) (v := ?_) rfl (by kernel_rfl) (by kernel_rfl) (by kernel_rfl) (fun _ _ _ h => h) (Or.inl ⟨by rfl, ?_⟩) (by assumption) ?_
              rotate_left
              · (intro w' hSw; (try dsimp only at hSw); go_simp; try (with_reducible rfl))
              (try simp only [Act.put, List.getElem_toArray, List.getElem_cons_zero, List.getElem_cons_succ, List.setIfInBounds_toArray, List.set_cons_zero, List.set_cons_succ])
              refine wpAnyH_take (i := 5) (v := ?_) rfl (by kernel_rfl) (by kernel_rfl) (by kernel_rfl) (fun _ _ _ h => h) (Or.inl ⟨by rfl, ?_⟩) (by assumption) ?_
              rotate_left
              · (intro w' hSw; (try dsimp only at hSw); go_simp; try (with_reducible rfl))
              (try simp only [Act.put, List.getElem_toArray, List.getElem_cons_zero, List.getElem_cons_succ, List.setIfInBounds_toArray, List.set_cons_zero, List.set_cons_succ])
              refine wpAnyH_take (i := 6) (v := ?_) rfl (by kernel_rfl) (by kernel_rfl) (by kernel_rfl) (fun _ _ _ h => h) (Or.inl ⟨by rfl, ?_⟩) (by assumption) ?_
              rotate_left
              · (intro w' hSw; (try dsimp only at hSw); go_simp; try (with_reducible rfl))
              (try simp only [Act.put, List.getElem_toArray, List.getElem_cons_zero, List.getElem_cons_succ, List.setIfInBounds_toArray, List.set_cons_zero, List.set_cons_succ])
              refine wpAnyH_take (i := 7) (v := ?_) rfl (by kernel_rfl) (by kernel_rfl) (by kernel_rfl) (fun _ _ _ h => h) (Or.inl ⟨by rfl, ?_⟩) (by assumption) ?_
              rotate_left
              · (intro w' hSw; (try dsimp only at hSw); go_simp; try (with_reducible rfl))
              (try simp only [Act.put, List.getElem_toArray, List.getElem_cons_zero, List.getElem_cons_succ, List.setIfInBounds_toArray, List.set_cons_zero, List.set_cons_succ])
              refine wpAnyH_take (i := 8) (v := ?_) rfl (by kernel_rfl) (by kernel_rfl) (by kernel_rfl) (fun _ _ _ h => h) (Or.inl ⟨by rfl, ?_⟩) (by assumption) ?_
              rotate_left
              · (intro w' hSw; (try dsimp only at hSw); go_simp; try (with_reducible rfl))
              (try simp only [Act.put, List.getElem_toArray, List.getElem_cons_zero, List.getElem_cons_succ, List.setIfInBounds_toArray, List.set_cons_zero, List.set_cons_succ])
              clear hw1 hw2
              obtain ⟨ad, had⟩ : ∃ ad : Addr, (if cap = K + 1 then some (Addr.mk g 0 none) else some (Addr.mk g ((K + 1) * 5) none)) = some ad := by split <;> exact ⟨_, rfl⟩
              rw [had]
              have HAD := hid had
              clear had
              refine wpAnyH_ready (rs := [0]) (by kernel_rfl) (by simp) (AllReadyH.cons rfl (fun KK hK => ?_) AllReadyH.nil)
              go_simp
              refine hK.out _ _ (bnew hHeld _) (fun hHeld => ?_)
              clear hK KK
              (try simp only [Act.put, List.getElem_toArray, List.getElem_cons_zero, List.getElem_cons_succ, List.setIfInBounds_toArray, List.set_cons_zero, List.set_cons_succ])
              refine wpAnyH_ready (rs := [4]) (by kernel_rfl) (by simp) (AllReadyH.cons rfl (fun KK hK => ?_) AllReadyH.nil)
              rw [if_pos (by rfl)]
              have HS0 := hHeld
              refine wp_append_own (.tmp 188) (.tmp 191) 24 (by rfl) wr.heap.size 27 iI _ 5 40 Try.underlying24 hi hz0 hz1 hz2 rfl (by decide) (.slice (some ⟨wr.heap.size, 0, none⟩) 0 0) 0 [] (by rfl) ⟨rfl, .inr ⟨wr.heap.size, 0, #[], rfl, Nat.le_refl _, heap_alloc_new wr.drew _, Nat.le_refl _, Nat.zero_le _, rfl, rfl⟩⟩ ⟨g, 0, none⟩ K cap (insCells (ps.take K)) (by rfl) (by rw [insCells_len, List.length_take, HNN.out]; have := HKk.out; omega) ?_ (insCells_one _) ?_ ?_ (Nat.le_of_lt (by simp)) ?_
              · intro j u hj
                rw [add_at, Nat.zero_add]
                have h1 := HCC.out j u (by rw [insCells_take, List.getElem?_take] at hj; split at hj; exact hj; cases hj)
                rw [Nat.zero_add] at h1
                exact ((bnew (bdrew (bid wr)) _).cell (p := ⟨g, j, none⟩) (World.block_lt_of_cell? wr _ h1)).trans h1
              · have := HKk.out; have := HK24.out; unfold maxLen; omega
              · have := HKk.out; have := HK24.out; omega
              intro v1 wA hown1 hgr1 hat1
              have HA := hid (HS0.grown hgr1 (Nat.le_of_lt (by simp)) (fun q hq => by cases hq; exact Nat.le_refl _))
              have HO1 := hid hown1
              clear hown1 hgr1 hat1 hHeld
              refine hK.out _ _ HA.out (fun hHeld => ?_)
              clear hK KK
              (try simp only [Act.put, List.getElem_toArray, List.getElem_cons_zero, List.getElem_cons_succ, List.setIfInBounds_toArray, List.set_cons_zero, List.set_cons_succ])
              refine wpAnyH_ready (rs := [9]) (by kernel_rfl) (by simp) (AllReadyH.cons rfl (fun KK hK => ?_) AllReadyH.nil)
              rw [if_pos (by rfl)]
              refine wp_append_own (.tmp 192) (.tmp 196) 24 (by rfl) wr.heap.size 27 iI _ 5 40 Try.underlying24 hi hz0 hz1 hz2 rfl (by decide) v1 (0 + K) _ (by rfl) HO1.out ad (k - (K + 1)) (cap - (K + 1)) (insCells (ps.drop (K + 1))) (by rfl) (by rw [insCells_len, List.length_drop, HNN.out]) ?_ (insCells_one _) ?_ ?_ HA.out.size ?_
              · intro j u hj
                have hlt : j < (insCells (ps.drop (K + 1))).length := (List.getElem?_eq_some_iff.1 hj).1
                rw [insCells_len, List.length_drop, HNN.out] at hlt
                have hne : ¬ cap = K + 1 := by have := HCAP.out; omega
                have hA := HAD.out
                rw [if_neg hne] at hA
                cases hA
                rw [add_at]
                have h1 := HCC.out ((K + 1) * 5 + j) u (by rw [insCells_drop, List.getElem?_drop] at hj; exact hj)
                rw [Nat.zero_add] at h1
                exact (HA.out.cell (p := ⟨g, (K + 1) * 5 + j, none⟩) (World.block_lt_of_cell? wr _ h1)).trans h1
              · have := HKk.out; have := HK24.out; unfold maxLen; omega
              · have := HKk.out; have := HK24.out; omega
              intro v2 wB hown2 hgr2 hat2
              have HB2 : Hid (Below wr.heap.size wr wB) := hid (HA.out.grown hgr2 HA.out.size (fun q hq => (HO1.out.lt q hq).1))
              obtain ⟨n2, hn2⟩ : ∃ n2, 0 + K + (k - (K + 1)) = n2 := ⟨_, rfl⟩
              rw [hn2, List.nil_append, ← insCells_app] at hown2
              obtain ⟨va2, vc2, rfl⟩ : ∃ va vc, v2 = .slice va n2 vc := by
                rcases hown2.2 with ⟨e, e2⟩ | ⟨g2, cap2, cur2, e, _⟩
                · exact ⟨_, _, by rw [e, e2]⟩
                · exact ⟨_, _, e⟩
              have HI2 := hid (InsRow.of_own hown2)
              have HN2 := hid (show n2 ≤ 100000 by have := HKk.out; have := HK24.out; omega)
              clear hown2 hgr2 hat2 hn2 HO1
              refine hK.out _ _ HB2.out (fun hHeld => ?_)
              clear hK KK
              (try simp only [Act.put, List.getElem_toArray, List.getElem_cons_zero, List.getElem_cons_succ, List.setIfInBounds_toArray, List.set_cons_zero, List.set_cons_succ])
              refine wpAnyH_ready (rs := [10]) (by kernel_rfl) (by simp) (AllReadyH.cons rfl (fun KK hK => ?_) AllReadyH.nil)
              go_simp
              go_at_call 5
              refine (Mates_any _ _ _ (ps.take K ++ ps.drop (K + 1)) _ HI2.out HN2.out).mono ?_
              rintro e w7 hm
              obtain ⟨r, hr, hr0⟩ := HLS.out
              unfold MatesRet at hm
              rw [show opsOf (ps.take K ++ ps.drop (K + 1)) = (opsOf ps).take K ++ (opsOf ps).drop (K + 1) by simp [opsOf, List.map_take, List.map_drop], hr] at hm
              obtain ⟨a7, c7, rfl, _, _, hb7⟩ := hm
              have HB7 := hid (HB2.out.trans (hb7.mono HB2.out.size))
              clear hb7 hr hHeld
              dsimp only
              refine hK.out _ _ HB7.out (fun hHeld => ?_)
              clear hK KK
              (try simp only [Act.put, List.getElem_toArray, List.getElem_cons_zero, List.getElem_cons_succ, List.setIfInBounds_toArray, List.set_cons_zero, List.set_cons_succ])
              refine wpAnyH_take (i := 11) (v := ?_) rfl (by kernel_rfl) (by kernel_rfl) (by kernel_rfl) (fun _ _ _ h => h) (Or.inl ⟨by rfl, ?_⟩) (by assumption) ?_
              rotate_left
              · (intro w' hSw; (try dsimp only at hSw); go_simp; try (with_reducible rfl))
              (try simp only [Act.put, List.getElem_toArray, List.getElem_cons_zero, List.getElem_cons_succ, List.setIfInBounds_toArray, List.set_cons_zero, List.set_cons_succ])
              refine wpAnyH_take (i := 12) (v := ?_) rfl (by kernel_rfl) (by kernel_rfl) (by kernel_rfl) (fun _ _ _ h => h) (Or.inl ⟨by rfl, ?_⟩) (by assumption) ?_
              rotate_left
              · (intro w' hSw; (try dsimp only at hSw); go_simp; try (with_reducible rfl))
              (try simp only [Act.put, List.getElem_toArray, List.getElem_cons_zero, List.getElem_cons_succ, List.setIfInBounds_toArray, List.set_cons_zero, List.set_cons_succ])
              refine wpAnyH_take (i := 13) (v := ?_) rfl (by kernel_rfl) (by kernel_rfl) (by kernel_rfl) (fun _ _ _ h => h) (Or.inl ⟨by rfl, ?_⟩) (by assumption) ?_
              rotate_left
              · (intro w' hSw; (try dsimp only at hSw); go_simp; try (with_reducible rfl))
              (try simp only [Act.put, List.getElem_toArray, List.getElem_cons_zero, List.getElem_cons_succ, List.setIfInBounds_toArray, List.set_cons_zero, List.set_cons_succ])
              refine wpAnyH_take (i := 14) (v := ?_) rfl (by kernel_rfl) (by kernel_rfl) (by kernel_rfl) (fun _ _ _ h => h) (Or.inl ⟨by rfl, ?_⟩) (by assumption) ?_
              rotate_left
              · (intro w' hSw; (try dsimp only at hSw); go_simp; try (with_reducible rfl))
              (try simp only [Act.put, List.getElem_toArray, List.getElem_cons_zero, List.getElem_cons_succ, List.setIfInBounds_toArray, List.set_cons_zero, List.set_cons_succ])
              refine wpAnyH_take (i := 15) (v := ?_) rfl (by kernel_rfl) (by kernel_rfl) (by kernel_rfl) (fun _ _ _ h => h) (Or.inl ⟨by rfl, ?_⟩) (by assumption) ?_
              rotate_left
              · (intro w' hSw; (try dsimp only at hSw); go_simp; try (with_reducible rfl))
              (try simp only [Act.put, List.getElem_toArray, List.getElem_cons_zero, List.getElem_cons_succ, List.setIfInBounds_toArray, List.set_cons_zero, List.set_cons_succ])
              refine wpAnyH_done (by kernel_rfl) ?_ _
              refine NoPanic.normal ?_
              go_wp2_with (go_at_call 4; refine (told_any _).mono ?_; rintro e w8 ⟨rfl, hb8⟩)
              go_ret
              exact ⟨rfl, bthen (bthen H5.out.2.2 HB7.out) hb8⟩
        · have hl0 : (t ++ [la]).length = t.length + 1 := by simp
          have HO := hid HX.out.stack
          rw [hl0, shuts_snoc] at HO
          obtain ⟨g, cap, hv, -, -⟩ := World.ownsRow.form HO.out (by omega)
          subst hv
          have hl2 : (shuts (opsOf ps) t).length = t.length := by simp [shuts]
          have cl : wr.cell? ⟨g, t.length, none⟩ = some (.int .i64 (shut ((opsOf ps).getD la 0))) := (HO.out.cellAt t.length (by omega)).trans (by rw [List.getElem?_append_right (by omega), hl2, Nat.sub_self]; rfl)
          obtain ⟨sh, hsh⟩ : ∃ sh, sh = shut ((opsOf ps).getD la 0) := ⟨_, rfl⟩
          rw [← hsh] at cl
          have HSH := hid hsh
          have s3 : (0 : Int) ≤ (t.length : Int) := by omega
          have s5 : (t.length : Int) < (t.length : Int) + 1 := by omega
          have s4 : (t.length : Int) ≤ 100 := by rw [hl0] at hl; omega
          have s6 : t.length ≤ cap := by
            rcases HO.out.2 with ⟨e, _⟩ | ⟨g', cap', cur, e, _, _, e2, _⟩
            · cases e
            · cases e; omega
          have s7 : (t.length : Int) ≤ (cap : Int) := by omega
          have HL := hid (show ps.length + (t.length + 1) ≤ 24 by rw [hl0] at hl; exact hl)
          have E6 : Hid (ps.length + 1 ≤ maxLen) := hid (by unfold maxLen; omega)
          have E7 : Hid ((ps.length + 1) * 40 ≤ 140737488355328) := hid (by omega)
          clear hl0 hl2 hsh hl hl1
          go_wp2_with (at_builtin; go_must (refine wpList_append_ins rfl (.tmp 79) (.tmp 87) 24 rfl Try.underlying24 hi hz0 rfl hz1 hz2 rfl HX.out.prog _ _ _ _ _ rfl E6.out E7.out HX.out.below.size ?_; intro v1 w2 hp1 hpa1 hpw1; have HN := hid (HX.out.popped HSH.out hp1 hpa1 hpw1); clear hp1 hpa1 hpw1))
          first
            | exact ⟨⟨_, _, by rw [List.length_append]; have := HL.out; simp; omega, HN.out⟩, by simp [lenOf]⟩
            | (go_roundw
               case rel => exact ⟨_, _, by rw [List.length_append]; have := HL.out; simp; omega, HN.out⟩
               case measure => simp [lenOf])

/-- EvalNest, whatever the ways. -/
theorem nest_all (a : Option Addr) (n c : Nat) (zs : List Int) (out : Int) (w : World) (hr : IntRow w a n zs) :
    Calls Try.prog 3 #[.slice a n c, .int .i64 out] w fun e w' => e = .returned (.bool true) ∧ Below w.heap.size w w' := by
  by_cases h : 1 ≤ n ∧ n ≤ 12
  · exact nest_walk a n c zs out w hr h.1 h.2
  · exact nest_none a n c out w (by omega)

end Go.Proofs.Ythhgeanmlpmokaa
