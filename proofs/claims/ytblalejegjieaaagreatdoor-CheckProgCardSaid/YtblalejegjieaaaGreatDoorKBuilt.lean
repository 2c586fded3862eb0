/-
  What Build lays: words, locks, conditions, programs, each a row of the call's own.
-/
import Derived.Test.YtblalejegjieaaaGreatDoorKBld
import Derived.Test.YtblalejegjieaaaGreatDoorKConf
import Derived.Deep.AppendLies
import Derived.Deep.RegionLaw
namespace Go.Proofs.YtblalejegjieaaaGreatDoor
open Go.RowKit
set_option linter.unusedVariables false

theorem cs_one (c : Cfg) (s : CV) : (c.cs s).all (·.oneCell') = true := by
  simp [Cfg.cs]
  refine ⟨?_, ?_, ?_, ?_, ?_, ?_, ?_, ?_, ?_, ?_, ?_, ?_⟩ <;> rfl
theorem info61 : (Tryz.prog.info? 38).map (fun i => (i.zero, i.size, i.bytes)) = some (some (.slice none 0 0), 1, 24) := by kernel_rfl
theorem info64 : (Tryz.prog.info? 2).map (fun i => (i.zero, i.size, i.bytes)) = some (some (.int .i64 0), 1, 8) := by kernel_rfl

/-- A slice of integers that the call made. -/
structure OwnInt (E : TypeId) (B : Nat) (v : Value) (zs : List Int) (w : World) : Prop where
  row : w.ownsRow B E 1 v zs.length (zs.map (Value.int .i64))
theorem OwnInt.nil (E : TypeId) (B : Nat) (w : World) : OwnInt E B (.slice none 0 0) [] w := ⟨World.ownsRow_nil _ _ _ _⟩
theorem OwnInt.kept {S : Nat → Prop} {E : TypeId} {B : Nat} {v : Value} {zs : List Int} {w w' : World} (h : OwnInt E B v zs w) (hw : Wrote S w w') (hs : ∀ x, v.ownBlock = some x → ¬ S x) : OwnInt E B v zs w' := ⟨own_wrote h.row hw hs⟩
theorem OwnInt.below {E : TypeId} {B : Nat} {v : Value} {zs : List Int} {w w' : World} (h : OwnInt E B v zs w) (hb : Below w.heap.size w w') : OwnInt E B v zs w' := h.kept (Wrote.of_below hb (fun _ => False)) fun _ _ h => h
theorem OwnInt.old {E : TypeId} {B : Nat} {v : Value} {zs : List Int} {w : World} (h : OwnInt E B v zs w) {g : Nat} (hg : v.ownBlock = some g) : B ≤ g ∧ g < w.heap.size := h.row.lt g hg
theorem OwnInt.shape {E : TypeId} {B : Nat} {v : Value} {zs : List Int} {w : World} (h : OwnInt E B v zs w) : ∃ a c, v = .slice a zs.length c ∧ IntRow w a zs.length zs ∧ (a = none → c = 0) ∧ zs.length ≤ c ∧ c ≤ maxLen := by
  rcases h.row.2 with ⟨h1, h0⟩ | ⟨g, cap, cur, h1, h2, h3, h4, h5, _⟩
  · exact ⟨none, 0, by rw [h1, h0], ⟨rfl, .inl ⟨rfl, h0⟩⟩, fun _ => rfl, by omega, Nat.zero_le _⟩
  · refine ⟨some ⟨g, 0, none⟩, cap, h1, ⟨rfl, .inr ⟨_, rfl, fun j hj => ?_⟩⟩, fun h => (by cases h), h4, h5⟩
    have hr := h.row
    rw [h1] at hr
    rw [add_at, Nat.zero_add, hr.cellAt j (by simpa using hj)]
    simp [hj]
theorem OwnInt.mono {E : TypeId} {B B' : Nat} {v : Value} {zs : List Int} {w : World} (h : OwnInt E B v zs w) (hB : B' ≤ B) : OwnInt E B' v zs w := by
  refine ⟨h.row.1, ?_⟩
  rcases h.row.2 with h' | ⟨g, cap, cur, h1, h2, h3⟩
  · exact .inl h'
  · exact .inr ⟨g, cap, cur, h1, Nat.le_trans hB h2, h3⟩

/-- append of one integer that has just been laid. -/
theorem wpList_append_int1 {P : Program} {ops : Array Oper} {rest : List Oper} {o : Oper} {a : Act} {W : World} {Q : Exit → Act → World → Prop} {E : TypeId} (hgd : o.guard = none) (s x : Operand) (t : TypeId)
    (ho : o.op = .call { callee := .builtin .append, args := #[s, x], argTypes := #[t, t] })
    {B : Nat} {iI : TypeInfo} (ht : P.underlying t = some (.slice E)) (hi : P.info? E = some iI) (hz : iI.zero = some (.int .i64 0)) (hsize : iI.size = 1) (hby : iI.bytes = 8)
    {v : Value} {zs : List Int} (hs : a.eval s = v) (hown : OwnInt E B v zs W) (z : Int) (hx : a.eval x = .slice (some ⟨W.heap.size, 0, none⟩) 1 1)
    (h6 : zs.length ≤ 1000) (hB : B ≤ W.heap.size)
    (h : ∀ v' w', OwnInt E B v' (zs ++ [z]) w' → (v'.ownBlock = v.ownBlock ∨ v'.ownBlock = some (W.heap.size + 1)) → Wrote (fun b => v.ownBlock = some b) W w' → wpList P ops Q rest (a.put o.dst v') w') :
    wpList P ops Q (o :: rest) a (W.alloc (.cells #[.int .i64 z] E)) := by
  refine wpList_append_own_at _ hgd s x t ho B E iI (.int .i64 0) 1 8 ht hi hz hsize hby rfl (by decide) v zs.length (zs.map (Value.int .i64)) hs (hown.below (bnew (bid W) _)).row ⟨W.heap.size, 0, none⟩ 1 1 [.int .i64 z] hx rfl (cell_one_new _ _ _) (fun u hu => by simp at hu; subst hu; rfl) (by unfold maxLen; omega) (by omega) (Nat.le_trans hB (bnew (bid W) _).size) ?_
  intro v' w' hown' hg _ hat
  refine h v' w' ⟨?_⟩ (by rw [size_alloc1] at hat; exact hat) ?_
  · rw [List.map_append, List.length_append]
    exact hown'
  · exact ((Wrote.refl _ W).alloc _).grown hg fun j hj _ => hj

/-- A slice of programs that the call made. -/
structure ProgOwn (B : Nat) (v : Value) (ps : List (List Ins)) (w : World) : Prop where
  ex : ∃ vs : List Value, w.ownsRow B 38 1 v ps.length vs ∧ ∀ (k : Nat) (p : List Ins), ps[k]? = some p → ∃ (a : Option Addr) (c : Nat), vs[k]? = some (Value.slice a p.length c) ∧ p.length ≤ c ∧ c ≤ maxLen ∧ InsRow w a p.length p ∧ ∀ x, a = some x → B ≤ x.block ∧ v.ownBlock ≠ some x.block
theorem ProgOwn.nil (B : Nat) (w : World) : ProgOwn B (.slice none 0 0) [] w := ⟨[], World.ownsRow_nil _ _ _ _, fun k p h => by simp at h⟩
theorem ProgOwn.old {B : Nat} {v : Value} {ps : List (List Ins)} {w : World} (h : ProgOwn B v ps w) {g : Nat} (hg : v.ownBlock = some g) : B ≤ g ∧ g < w.heap.size := by
  obtain ⟨vs, h1, _⟩ := h.ex
  exact h1.lt g hg
theorem InsRow.lt {w : World} {a : Option Addr} {n : Nat} {p : List Ins} (h : InsRow w a n p) (hn : 0 < n) {x : Addr} (hx : a = some x) : x.block < w.heap.size := by
  obtain ⟨b, off, rfl, hb, _⟩ := h.at hn
  cases hx
  exact hb
theorem ProgOwn.below {B : Nat} {v : Value} {ps : List (List Ins)} {w w' : World} (h : ProgOwn B v ps w) (hb : Below w.heap.size w w') : ProgOwn B v ps w' := by
  obtain ⟨vs, h1, h2⟩ := h.ex
  refine ⟨vs, own_wrote h1 (Wrote.of_below hb (fun _ => False)) (fun _ _ h => h), fun k p hk => ?_⟩
  obtain ⟨a, c, q1, q2, q3, q4, q5⟩ := h2 k p hk
  exact ⟨a, c, q1, q2, q3, q4.below hb, q5⟩
theorem ProgOwn.shape {B : Nat} {v : Value} {ps : List (List Ins)} {w : World} (h : ProgOwn B v ps w) : ∃ a c, v = .slice a ps.length c ∧ ProgRow w a ps.length ps ∧ (a = none → c = 0) ∧ ps.length ≤ c ∧ c ≤ maxLen := by
  obtain ⟨vs, hr, h2⟩ := h.ex
  rcases hr.2 with ⟨h1, h0⟩ | ⟨g, cap, cur, h1, hB, h3, h4, h5, _⟩
  · refine ⟨none, 0, by rw [h1, h0], ⟨rfl, .inl ⟨rfl, h0⟩⟩, fun _ => rfl, by omega, Nat.zero_le _⟩
  · refine ⟨some ⟨g, 0, none⟩, cap, h1, ⟨rfl, .inr ⟨g, 0, rfl, lt_of_block h3, fun k p hk => ?_⟩⟩, fun h => (by cases h), h4, h5⟩
    obtain ⟨a, c, q1, q2, q3, q4, q5⟩ := h2 k p hk
    refine ⟨a, c, ?_, q2, q3, q4⟩
    have hr' := hr
    rw [h1] at hr'
    have hkl : k < vs.length := (List.getElem?_eq_some_iff.1 q1).1
    rw [Nat.zero_add, hr'.cellAt k (by have := hr'.1; omega)]
    exact q1

theorem Wrote.insRow {S : Nat → Prop} {w w' : World} {a : Option Addr} {n : Nat} {p : List Ins} (h : InsRow w a n p) (hw : Wrote S w w') (hs : ∀ x, a = some x → 0 < n → ¬ S x.block) : InsRow w' a n p := by
  refine ⟨h.cnt, ?_⟩
  rcases h.row with h' | ⟨b, off, rfl, hlt, hc⟩
  · exact .inl h'
  · by_cases hn : 0 < n
    · exact .inr ⟨b, off, rfl, Nat.lt_of_lt_of_le hlt hw.size, fun k i hk => (hc k i hk).keep (hw.block b hlt (hs _ rfl hn))⟩
    · refine .inr ⟨b, off, rfl, Nat.lt_of_lt_of_le hlt hw.size, fun k i hk => ?_⟩
      have := (List.getElem?_eq_some_iff.1 hk).1
      have := h.cnt
      omega

/-- append of a program whose slice has just been laid. -/
theorem wpList_append_prog {ops : Array Oper} {rest : List Oper} {o : Oper} {a : Act} {W : World} {Q : Exit → Act → World → Prop} (hgd : o.guard = none) (s x : Operand)
    (ho : o.op = .call { callee := .builtin .append, args := #[s, x], argTypes := #[32, 32] })
    {B : Nat} {v : Value} {ps : List (List Ins)} (hs : a.eval s = v) (hown : ProgOwn B v ps W) {pa : Option Addr} {pc : Nat} {m : Nat} {p : List Ins} (hx : a.eval x = .slice (some ⟨W.heap.size, 0, none⟩) 1 1)
    (hp : InsRow W pa m p) (hpc : m ≤ pc) (hpm : pc ≤ maxLen) (hpn : ∀ y, pa = some y → B ≤ y.block ∧ v.ownBlock ≠ some y.block) (hpl : ∀ y, pa = some y → y.block < W.heap.size)
    (h6 : ps.length ≤ 1000) (hB : B ≤ W.heap.size)
    (h : ∀ v' w', ProgOwn B v' (ps ++ [p]) w' → (v'.ownBlock = v.ownBlock ∨ v'.ownBlock = some (W.heap.size + 1)) → Wrote (fun b => v.ownBlock = some b) W w' → wpList Tryz.prog ops Q rest (a.put o.dst v') w') :
    wpList Tryz.prog ops Q (o :: rest) a (W.alloc (.cells #[.slice pa m pc] 38)) := by
  obtain ⟨iI, hi, hz0, hz1, hz2⟩ := info_parts info61
  obtain ⟨vs, hr, h2⟩ := hown.ex
  refine wpList_append_own_at _ hgd s x 32 ho B 38 iI (.slice none 0 0) 1 24 Tryz.underlying32 hi hz0 hz1 hz2 rfl (by decide) v ps.length vs hs (own_wrote hr (Wrote.of_below (bnew (bid W) _) (fun _ => False)) (fun _ _ h => h)) ⟨W.heap.size, 0, none⟩ 1 1 [.slice pa m pc] hx rfl (cell_one_new _ _ _) (fun u hu => by simp at hu; subst hu; rfl) (by unfold maxLen; omega) (by omega) (Nat.le_trans hB (bnew (bid W) _).size) ?_
  intro v' w' hown' hg _ hat
  rw [size_alloc1] at hat
  have hw : Wrote (fun b => v.ownBlock = some b) W w' := ((Wrote.refl _ W).alloc _).grown hg fun j hj _ => hj
  have hvl : vs.length = ps.length := by have := hr.1; omega
  have hne : ∀ y : Addr, y.block < W.heap.size → v.ownBlock ≠ some y.block → v'.ownBlock ≠ some y.block := fun y hy hv e => by
    rcases hat with e' | e'
    · exact hv (e'.symm.trans e)
    · rw [e'] at e
      simp only [Option.some.injEq] at e
      omega
  refine h v' w' ⟨vs ++ [.slice pa m pc], by rw [List.length_append]; exact hown', fun k q hk => ?_⟩ hat hw
  by_cases hkl : k < ps.length
  · rw [List.getElem?_append_left hkl] at hk
    obtain ⟨b, c, q1, q2, q3, q4, q5⟩ := h2 k q hk
    refine ⟨b, c, by rw [List.getElem?_append_left (by omega)]; exact q1, q2, q3, Wrote.insRow q4 hw (fun y hy _ => (q5 y hy).2), fun y hy => ⟨(q5 y hy).1, ?_⟩⟩
    refine hne y ?_ (q5 y hy).2
    rcases q4.row with ⟨h', _⟩ | ⟨b', off', h', hlt, _⟩
    · rw [hy] at h'; cases h'
    · rw [hy] at h'; cases h'; exact hlt
  · have hkn : k = ps.length := by have := (List.getElem?_eq_some_iff.1 hk).1; simp at this; omega
    subst hkn
    rw [List.getElem?_append_right (Nat.le_refl _)] at hk
    simp at hk
    subst hk
    have hm := hp.cnt
    subst hm
    exact ⟨pa, pc, by rw [← hvl, List.getElem?_append_right (Nat.le_refl _)]; simp, hpc, hpm, Wrote.insRow hp hw (fun y hy _ => (hpn y hy).2), fun y hy => ⟨(hpn y hy).1, hne y (hpl y hy) (hpn y hy).2⟩⟩

/-- The same, as a step of a region that draws its order. -/
theorem step_append_prog {ops : Array Oper} {o : Oper} {a : Act} {W : World} {K : Act → World → Prop} {Q : Exit → Act → World → Prop} {E : Prop} (hgd : o.guard = none) (s x : Operand)
    (ho : o.op = .call { callee := .builtin .append, args := #[s, x], argTypes := #[32, 32] })
    {B : Nat} {v : Value} {ps : List (List Ins)} (hs : a.eval s = v) {pa : Option Addr} {pc : Nat} {m : Nat} {p : List Ins} (b : Nat) (hx : a.eval x = .slice (some ⟨b, 0, none⟩) 1 1) (hb : W.cell? ⟨b, 0, none⟩ = some (.slice pa m pc))
    (hown : ProgOwn B v ps W)
    (hp : InsRow W pa m p) (hpc : m ≤ pc) (hpm : pc ≤ maxLen) (hpn : ∀ y, pa = some y → B ≤ y.block ∧ v.ownBlock ≠ some y.block) (hpl : ∀ y, pa = some y → y.block < W.heap.size)
    (h6 : ps.length ≤ 1000) (hB : B ≤ W.heap.size)
    (h : ∀ g cap w', ProgOwn B (.slice (some ⟨g, 0, none⟩) (ps.length + 1) cap) (ps ++ [p]) w' → (v.ownBlock = some g ∨ g = W.heap.size) → Wrote (fun b => v.ownBlock = some b) W w' → K (a.put o.dst (.slice (some ⟨g, 0, none⟩) (ps.length + 1) cap)) w') :
    if Region.wanted o (yielded ops a.tmps) = true then Oper.wp Tryz.prog o a W K Q else E := by
  obtain ⟨iI, hi, hz0, hz1, hz2⟩ := info_parts info61
  obtain ⟨vs, hr, h2⟩ := hown.ex
  refine step_append_lies W hgd s x 32 ho B 38 iI (.slice none 0 0) 1 24 Tryz.underlying32 hi hz0 hz1 hz2 rfl (by decide) v ps.length vs hs hr ⟨b, 0, none⟩ 1 1 [.slice pa m pc] hx rfl
    (fun j u hj => ?_) (fun u hu => by simp at hu; subst hu; rfl) (by decide) (by unfold maxLen; omega) (by omega) hB W.heap.size rfl ?_
  · match j, hj with
    | 0, hj =>
      simp at hj
      subst hj
      rw [add_zero]
      exact hb
  intro g cap w' hown' hg hat hlt
  have hw : Wrote (fun b => v.ownBlock = some b) W w' := (Wrote.refl _ W).grown hg fun j hj _ => hj
  have hvl : vs.length = ps.length := by have := hr.1; omega
  have hne : ∀ y : Addr, y.block < W.heap.size → v.ownBlock ≠ some y.block → (Value.slice (some ⟨g, 0, none⟩) (ps.length + 1) cap).ownBlock ≠ some y.block := fun y hy hv e => by
    simp only [Value.ownBlock, Option.some.injEq] at e
    rcases hat with e' | e'
    · exact hv (by rw [e', e])
    · omega
  refine h g cap w' ⟨vs ++ [.slice pa m pc], by rw [List.length_append]; exact hown', fun k q hk => ?_⟩ hat hw
  by_cases hkl : k < ps.length
  · rw [List.getElem?_append_left hkl] at hk
    obtain ⟨b, c, q1, q2, q3, q4, q5⟩ := h2 k q hk
    refine ⟨b, c, by rw [List.getElem?_append_left (by omega)]; exact q1, q2, q3, Wrote.insRow q4 hw (fun y hy _ => (q5 y hy).2), fun y hy => ⟨(q5 y hy).1, ?_⟩⟩
    refine hne y ?_ (q5 y hy).2
    rcases q4.row with ⟨h', _⟩ | ⟨b', off', h', hlt, _⟩
    · rw [hy] at h'; cases h'
    · rw [hy] at h'; cases h'; exact hlt
  · have hkn : k = ps.length := by have := (List.getElem?_eq_some_iff.1 hk).1; simp at this; omega
    subst hkn
    rw [List.getElem?_append_right (Nat.le_refl _)] at hk
    simp at hk
    subst hk
    have hm := hp.cnt
    subst hm
    exact ⟨pa, pc, by rw [← hvl, List.getElem?_append_right (Nat.le_refl _)]; simp, hpc, hpm, Wrote.insRow hp hw (fun y hy _ => (hpn y hy).2), fun y hy => ⟨(hpn y hy).1, hne y (hpl y hy) (hpn y hy).2⟩⟩

/-- What has been laid, from block B on. -/
structure Built (B : Nat) (c : Cfg) (s : CV) (zs : List Int) (W : World) : Prop where
  ini : OwnInt 2 B (.slice s.ai s.ni s.ki) zs W
  ine : ∀ x, (Value.slice s.ai s.ni s.ki).ownBlock = some x → (Value.slice s.ap s.np s.kp).ownBlock ≠ some x
  progs : ProgOwn B (.slice s.ap s.np s.kp) c.progs W
  pn : s.np = c.progs.length
  lks : LkRow W s.al s.nl c.locks
  lke : ∀ x, s.al = some x → B ≤ x.block ∧ x.block < W.heap.size ∧ (Value.slice s.ap s.np s.kp).ownBlock ≠ some x.block
  cds : IntRow W s.ac s.nc c.conds
  cde : ∀ x, s.ac = some x → B ≤ x.block ∧ x.block < W.heap.size ∧ (Value.slice s.ap s.np s.kp).ownBlock ≠ some x.block
  few : s.ni ≤ 1000 ∧ s.nl ≤ 1000 ∧ s.nc ≤ 1000 ∧ s.np ≤ 1000
theorem Built.below {B : Nat} {c : Cfg} {s : CV} {zs : List Int} {W W' : World} (h : Built B c s zs W) (hb : Below W.heap.size W W') : Built B c s zs W' :=
  ⟨h.ini.below hb, h.ine, h.progs.below hb, h.pn, h.lks.below hb, fun x hx => ⟨(h.lke x hx).1, Nat.lt_of_lt_of_le (h.lke x hx).2.1 hb.size, (h.lke x hx).2.2⟩, h.cds.below hb, fun x hx => ⟨(h.cde x hx).1, Nat.lt_of_lt_of_le (h.cde x hx).2.1 hb.size, (h.cde x hx).2.2⟩, h.few⟩
theorem Built.cfgIn {B : Nat} {c : Cfg} {s : CV} {zs : List Int} {W : World} (h : Built B c s zs W) : CfgIn W c s := by
  refine ⟨h.lks, h.cds, ?_, by have := h.few.1; have := h.few.2.1; have := h.few.2.2.1; have := h.few.2.2.2; omega, by have := h.few.1; have := h.few.2.1; have := h.few.2.2.1; have := h.few.2.2.2; omega, by have := h.few.1; have := h.few.2.1; have := h.few.2.2.1; have := h.few.2.2.2; omega, by have := h.few.1; have := h.few.2.1; have := h.few.2.2.1; have := h.few.2.2.2; omega⟩
  obtain ⟨a, cc, he, hr, _⟩ := h.progs.shape
  simp only [Value.slice.injEq] at he
  obtain ⟨rfl, hn, rfl⟩ := he
  rw [hn]
  exact hr

theorem lk_wrote {S : Nat → Prop} {w w' : World} {a : Option Addr} {n : Nat} {ls : List Lk} (h : LkRow w a n ls) (hw : Wrote S w w') (hs : ∀ x, a = some x → ¬ S x.block) : LkRow w' a n ls := by
  refine ⟨h.cnt, ?_, h.wf⟩
  rcases h.row with h' | ⟨b, off, rfl, hlt, hc⟩
  · exact .inl h'
  · exact .inr ⟨b, off, rfl, Nat.lt_of_lt_of_le hlt hw.size, fun k i hk => (hc k i hk).keep (hw.block b hlt (hs _ rfl))⟩

/-- One program more. -/
theorem Built.more {B : Nat} {c : Cfg} {s : CV} {zs : List Int} {W W1 w' : World} (h : Built B c s zs W) (hb : Below W.heap.size W W1) {p : List Ins} {g cap : Nat} (hn : s.np < 999)
    (hown : ProgOwn B (.slice (some ⟨g, 0, none⟩) (c.progs.length + 1) cap) (c.progs ++ [p]) w') (hat : (Value.slice s.ap s.np s.kp).ownBlock = some g ∨ g = W1.heap.size) (hw : Wrote (fun b => (Value.slice s.ap s.np s.kp).ownBlock = some b) W1 w') :
    Built B { c with progs := c.progs ++ [p] } { s with ap := some ⟨g, 0, none⟩, np := s.np + 1, kp := cap } zs w' := by
  have h1 := h.below hb
  have hne : ∀ x : Nat, x < W1.heap.size → (Value.slice s.ap s.np s.kp).ownBlock ≠ some x → some g ≠ some x := fun x hx hv e => by
    simp only [Option.some.injEq] at e
    rcases hat with e' | e'
    · exact hv (by rw [e', e])
    · omega
  have hin : ∀ x, (Value.slice s.ai s.ni s.ki).ownBlock = some x → x < W1.heap.size := fun x hx => (h1.ini.old hx).2
  refine ⟨h1.ini.kept hw (fun x hx => h1.ine x hx), fun x hx => hne x (hin x hx) (h1.ine x hx), ?_, by rw [h.pn, List.length_append]; rfl, lk_wrote h1.lks hw (fun x hx => (h1.lke x hx).2.2), fun x hx => ⟨(h1.lke x hx).1, Nat.lt_of_lt_of_le (h1.lke x hx).2.1 hw.size, hne _ (h1.lke x hx).2.1 (h1.lke x hx).2.2⟩, h1.cds.kept hw (fun x hx _ => (h1.cde x hx).2.2), fun x hx => ⟨(h1.cde x hx).1, Nat.lt_of_lt_of_le (h1.cde x hx).2.1 hw.size, hne _ (h1.cde x hx).2.1 (h1.cde x hx).2.2⟩, ?_⟩
  · show ProgOwn B (.slice (some ⟨g, 0, none⟩) (s.np + 1) cap) _ w'
    rw [h.pn]
    exact hown
  · have := h.few
    exact ⟨this.1, this.2.1, this.2.2.1, by dsimp only; omega⟩
/-- A write elsewhere, below B. -/
theorem Built.far {S : Nat → Prop} {B : Nat} {c : Cfg} {s : CV} {zs : List Int} {W W' : World} (h : Built B c s zs W) (hw : Wrote S W W') (hs : ∀ x, B ≤ x → ¬ S x) : Built B c s zs W' := by
  obtain ⟨vs, hr, h2⟩ := h.progs.ex
  refine ⟨h.ini.kept hw (fun x hx => hs x (h.ini.old hx).1), h.ine, ⟨vs, own_wrote hr hw (fun x hx => hs x (hr.lt x hx).1), fun k p hk => ?_⟩, h.pn, lk_wrote h.lks hw (fun x hx => hs _ (h.lke x hx).1), fun x hx => ⟨(h.lke x hx).1, Nat.lt_of_lt_of_le (h.lke x hx).2.1 hw.size, (h.lke x hx).2.2⟩, h.cds.kept hw (fun x hx _ => hs _ (h.cde x hx).1), fun x hx => ⟨(h.cde x hx).1, Nat.lt_of_lt_of_le (h.cde x hx).2.1 hw.size, (h.cde x hx).2.2⟩, h.few⟩
  obtain ⟨a, cc, q1, q2, q3, q4, q5⟩ := h2 k p hk
  exact ⟨a, cc, q1, q2, q3, Wrote.insRow q4 hw (fun x hx _ => hs _ (q5 x hx).1), q5⟩
theorem Built.mono {B B' : Nat} {c : Cfg} {s : CV} {zs : List Int} {W : World} (h : Built B c s zs W) (hB : B' ≤ B) : Built B' c s zs W := by
  obtain ⟨vs, hr, h2⟩ := h.progs.ex
  refine ⟨h.ini.mono hB, h.ine, ⟨vs, ownsRow_lower hr hB, fun k p hk => ?_⟩, h.pn, h.lks, fun x hx => ⟨Nat.le_trans hB (h.lke x hx).1, (h.lke x hx).2⟩, h.cds, fun x hx => ⟨Nat.le_trans hB (h.cde x hx).1, (h.cde x hx).2⟩, h.few⟩
  obtain ⟨a, cc, q1, q2, q3, q4, q5⟩ := h2 k p hk
  exact ⟨a, cc, q1, q2, q3, q4, fun x hx => ⟨Nat.le_trans hB (q5 x hx).1, (q5 x hx).2⟩⟩
theorem LkRow.lit3 (w : World) (a0 a1 a2 b0 b1 b2 d0 d1 d2 : Int) (hwf : ∀ l ∈ [Lk.mk a0 a1 a2, Lk.mk b0 b1 b2, Lk.mk d0 d1 d2], l.Wf) :
    LkRow (w.alloc (.cells #[.int .i64 a0, .int .i64 a1, .int .i64 a2, .int .i64 b0, .int .i64 b1, .int .i64 b2, .int .i64 d0, .int .i64 d1, .int .i64 d2] 50)) (some ⟨w.heap.size, 0, none⟩) 3 [⟨a0, a1, a2⟩, ⟨b0, b1, b2⟩, ⟨d0, d1, d2⟩] := by
  have hb := heap_alloc_new w (.cells #[.int .i64 a0, .int .i64 a1, .int .i64 a2, .int .i64 b0, .int .i64 b1, .int .i64 b2, .int .i64 d0, .int .i64 d1, .int .i64 d2] 50)
  refine ⟨rfl, .inr ⟨w.heap.size, 0, rfl, lt_of_block hb, fun k l hk => ?_⟩, hwf⟩
  match k, hk with
  | 0, hk => cases hk; exact ⟨cell_of_blk hb 0, cell_of_blk hb 1, cell_of_blk hb 2⟩
  | 1, hk => cases hk; exact ⟨cell_of_blk hb 3, cell_of_blk hb 4, cell_of_blk hb 5⟩
  | 2, hk => cases hk; exact ⟨cell_of_blk hb 6, cell_of_blk hb 7, cell_of_blk hb 8⟩
  | k + 3, hk => simp at hk
theorem ProgOwn.lit1 (w : World) (B : Nat) (hB : B ≤ w.heap.size) : ProgOwn B (.slice (some ⟨w.heap.size, 0, none⟩) 1 1) [[]] (w.alloc (.cells #[.slice none 0 0] 38)) := by
  refine ⟨[.slice none 0 0], ⟨by simp, .inr ⟨w.heap.size, 1, _, rfl, hB, heap_alloc_new _ _, Nat.le_refl _, by unfold maxLen; omega, by simp, by simp⟩⟩, fun k p hk => ?_⟩
  match k, hk with
  | 0, hk => cases hk; exact ⟨none, 0, rfl, Nat.le_refl _, Nat.zero_le _, ⟨rfl, .inl ⟨rfl, rfl⟩⟩, fun x hx => by cases hx⟩
  | k + 1, hk => simp at hk
/-- Another program laid in the place of one. -/
theorem Built.setProg {B : Nat} {c : Cfg} {s : CV} {zs : List Int} {W : World} (h : Built B c s zs W) {g cap : Nat} (hg : s.ap = some ⟨g, 0, none⟩) {k : Nat} (hk : k < c.progs.length) {pa : Option Addr} {pc m : Nat} {p : List Ins}
    (hp : InsRow W pa m p) (hpc : m ≤ pc) (hpm : pc ≤ maxLen) (hpn : ∀ y, pa = some y → B ≤ y.block ∧ g ≠ y.block) :
    Built B { c with progs := c.progs.set k p } s zs (W.setCell ⟨g, k, none⟩ (.slice pa m pc)) := by
  have hw : Wrote (fun b => b = g) W (W.setCell ⟨g, k, none⟩ (.slice pa m pc)) := Wrote.setCell (S := fun b => b = g) (Wrote.refl _ W) (p := ⟨g, k, none⟩) (fun _ => rfl) _
  have ho : (Value.slice s.ap s.np s.kp).ownBlock = some g := by rw [hg]; rfl
  obtain ⟨vs, hr, h2⟩ := h.progs.ex
  have hne : ∀ x, (Value.slice s.ap s.np s.kp).ownBlock ≠ some x → ¬ x = g := fun x hx e => hx (by rw [ho, e])
  have hvl : vs.length = c.progs.length := by have := hr.1; omega
  refine ⟨h.ini.kept hw (fun x hx => hne x (h.ine x hx)), h.ine, ⟨vs.set k (.slice pa m pc), ?_, fun j q hj => ?_⟩, by rw [List.length_set]; exact h.pn, lk_wrote h.lks hw (fun x hx => hne _ (h.lke x hx).2.2), fun x hx => ⟨(h.lke x hx).1, by rw [World.size_setCell]; exact (h.lke x hx).2.1, (h.lke x hx).2.2⟩, h.cds.kept hw (fun x hx _ => hne _ (h.cde x hx).2.2), fun x hx => ⟨(h.cde x hx).1, by rw [World.size_setCell]; exact (h.cde x hx).2.1, (h.cde x hx).2.2⟩, h.few⟩
  · have h1 := hr
    rw [hg, h.pn] at h1
    have := (World.ownsRow.stored h1 k (.slice pa m pc)).1
    show World.ownsRow _ _ _ _ (.slice s.ap s.np s.kp) _ _
    rw [hg, h.pn, List.length_set]
    exact this
  · by_cases e : j = k
    · subst e
      rw [List.getElem?_set_self hk] at hj
      cases hj
      have hm := hp.cnt
      subst hm
      exact ⟨pa, pc, by rw [List.getElem?_set_self (by omega)], hpc, hpm, Wrote.insRow hp hw (fun y hy _ e => (hpn y hy).2 e.symm), fun y hy => ⟨(hpn y hy).1, by rw [ho]; intro e; exact (hpn y hy).2 (Option.some.inj e)⟩⟩
    · rw [List.getElem?_set_ne (fun e' => e e'.symm)] at hj
      obtain ⟨a, cc, q1, q2, q3, q4, q5⟩ := h2 j q hj
      exact ⟨a, cc, by rw [List.getElem?_set_ne (fun e' => e e'.symm)]; exact q1, q2, q3, Wrote.insRow q4 hw (fun x hx _ => hne _ (q5 x hx).2), q5⟩

end Go.Proofs.YtblalejegjieaaaGreatDoor
