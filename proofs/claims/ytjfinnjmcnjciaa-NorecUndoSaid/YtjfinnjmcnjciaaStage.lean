/-
  Regions that draw their order, in which calls turn memory: what holds of the world is told stage by stage ('D L w': L tells which operations have come up); each operation yields one value in every stage in which it may come up. One walk, in the text's order, serves every order.
-/
import Derived.Test.YtjfinnjmcnjciaaBase
import Derived.StillTail
import Derived.BigQuiet
namespace Go.Proofs.Ytjfinnjmcnjciaa
open Go.RowKit

def lst (listed : Array Bool) : Nat → Bool := fun j => listed.getD j false
def bump (L : Nat → Bool) (k : Nat) : Nat → Bool := fun j => bif Nat.beq j k then true else L j
theorem bump_at (L : Nat → Bool) (k : Nat) : bump L k k = true := by simp [bump]
theorem bump_ne (L : Nat → Bool) {k j : Nat} (h : j ≠ k) : bump L k j = L j := by simp [bump, h]
theorem lst_set {listed : Array Bool} {k : Nat} (h : k < listed.size) : lst (listed.setIfInBounds k true) = bump (lst listed) k := by
  funext j
  by_cases e : j = k
  · subst e; rw [bump_at]; simp [lst, h]
  · rw [bump_ne _ e]
    unfold lst
    rw [getD_set_ne false (Ne.symm e)]

section
variable {P : Program} {ops : Array Oper} {md : Region.Mode} {D : (Nat → Bool) → World → Prop}

/-- What came up has all that it waits for behind it. -/
def Closed (md : Region.Mode) (ops : Array Oper) (L : Nat → Bool) : Prop := ∀ j oj, ops[j]? = some oj → L j = true → ∀ e ∈ oj.after, Region.binds md e = true → L e.on = true
theorem Closed.no {L : Nat → Bool} (h : Closed md ops L) {i j : Nat} (hi : L i = false) (hw : Region.waitsFor md ops j i = true) : L j = false := by
  obtain ⟨oj, hoj, e, he, hb, hon⟩ := Region.waitsFor_spec hw
  cases hj : L j with
  | false => rfl
  | true =>
    have := h j oj hoj hj e he hb
    rw [hon, hi] at this
    cases this

theorem Closed.yes {L : Nat → Bool} (h : Closed md ops L) {i j : Nat} (hj : L j = true) (hw : Region.waitsFor md ops j i = true) : L i = true := by
  obtain ⟨oj, hoj, e, he, hb, hon⟩ := Region.waitsFor_spec hw
  have := h j oj hoj hj e he hb
  rwa [hon] at this
/-- .. and the operation o may come up now. -/
structure Cl (md : Region.Mode) (ops : Array Oper) (o : Oper) (L : Nat → Bool) : Prop where
  closed : Closed md ops L
  ready : ∀ e ∈ o.after, Region.binds md e = true → L e.on = true
theorem Cl.no {o : Oper} {L : Nat → Bool} (h : Cl md ops o L) {i j : Nat} (hi : L i = false) (hw : Region.waitsFor md ops j i = true) : L j = false := h.closed.no hi hw
theorem Cl.dep {o : Oper} {L : Nat → Bool} (h : Cl md ops o L) {i : Nat} (hw : (o.after.any fun e => Region.binds md e && e.on == i) = true) : L i = true := by
  obtain ⟨e, he, hb⟩ := Array.any_eq_true'.1 hw
  simp only [Bool.and_eq_true, beq_iff_eq] at hb
  have := h.ready e he hb.1
  rwa [hb.2] at this

/-- What is asked of what an operation comes to: the value v, and a world of the class C. -/
def gUpon (P : Program) (C : World → Prop) (w : World) (v : Value) : Result Next → Prop
  | .ok (.value u) w' => u = v ∧ C w'
  | .ok .skip w' => v = undef ∧ C w'
  | .ok (.enter f args) w' => w' = w ∧ Calls P f args w (fun e w'' => e = .returned v ∧ C w'')
  | _ => False

def GY (P : Program) (ops : Array Oper) (md : Region.Mode) (D : (Nat → Bool) → World → Prop) (k : Nat) (o : Oper) (v : Value) (a : Act) : Prop :=
  (Region.wanted o (yielded ops a.tmps) = true ∧ ∀ L w, L k = false → Cl md ops o L → D L w → gUpon P (D (bump L k)) w v ((execOp a.eval o).run P w)) ∨
  (Region.wanted o (yielded ops a.tmps) = false ∧ v = undef ∧ ∀ L w, L k = false → Cl md ops o L → D L w → D (bump L k) w)

def gOp (P : Program) (ops : Array Oper) (md : Region.Mode) (D : (Nat → Bool) → World → Prop) (k : Nat) (K : Act → Prop) (a : Act) : Prop := ∃ o v, ops[k]? = some o ∧ GY P ops md D k o v a ∧ K (a.put o.dst v)

theorem gOp_mono {k : Nat} {a : Act} {K K' : Act → Prop} (h : ∀ a, K a → K' a) (hh : gOp P ops md D k K a) : gOp P ops md D k K' a := by
  obtain ⟨o, v, h1, h2, h3⟩ := hh
  exact ⟨o, v, h1, h2, h _ h3⟩

theorem GY.of_same {k : Nat} {o : Oper} {v : Value} {a a' : Act} (hy : GY P ops md D k o v a) (he : execOp a'.eval o = execOp a.eval o)
    (hw : Region.wanted o (yielded ops a'.tmps) = Region.wanted o (yielded ops a.tmps)) : GY P ops md D k o v a' := by
  unfold GY at *
  rw [he, hw]
  exact hy

theorem gOp_put {i j : Nat} {oi oj : Oper} {v : Value} (hj : ops[j]? = some oj) (hap : oi.apart ops oj = true)
    (hsi : ∀ cs b, oi.op ≠ .select cs b) (hsj : ∀ cs b, oj.op ≠ .select cs b) {K : Act → Prop} {a : Act}
    (hy : GY P ops md D i oi v a) (h : gOp P ops md D j K (a.put oi.dst v)) :
    gOp P ops md D j (fun a' => GY P ops md D i oi v a' ∧ K (a'.put oi.dst v)) a := by
  obtain ⟨h1, h2, h3⟩ := Oper.apart_spec hap
  obtain ⟨o, u, ho, hu, hk⟩ := h
  have : o = oj := Option.some.inj (ho.symm.trans hj)
  subst this
  refine ⟨o, u, ho, hu.of_same (execOp_put o hsj a oi.dst v h1).symm (wanted_put o a oi.dst v h1).symm, hy.of_same (execOp_put oi hsi a o.dst u h3) (wanted_put oi a o.dst u h3), ?_⟩
  rw [← Act.put_comm a v u h2]
  exact hk

def wpAnyG (P : Program) (md : Region.Mode) (ops : Array Oper) (D : (Nat → Bool) → World → Prop) (Q : Array Bool → Act → Prop) : Nat → Array Bool → Act → Prop
  | 0, listed, a => Region.ready md ops listed = [] ∧ Q listed a
  | fuel + 1, listed, a =>
    (Region.ready md ops listed = [] → Q listed a) ∧ ∀ i ∈ Region.ready md ops listed, gOp P ops md D i (wpAnyG P md ops D Q fuel (listed.setIfInBounds i true)) a

theorem closed_set {listed : Array Bool} (hc : Closed md ops (lst listed)) {i : Nat} (hi : i ∈ Region.ready md ops listed) (hz : listed.size = ops.size) : Closed md ops (bump (lst listed) i) := by
  obtain ⟨_, oi, hoi, hall⟩ := mem_ready.1 hi
  intro j oj hoj hj e he hb
  by_cases eq : e.on = i
  · rw [eq]; exact bump_at _ _
  · rw [bump_ne _ eq]
    by_cases ej : j = i
    · subst ej
      have : oj = oi := Option.some.inj (hoj.symm.trans hoi)
      subst this
      exact hall e he hb
    · rw [bump_ne _ ej] at hj
      exact hc j oj hoj hj e he hb

theorem wpOp_of_gOp {i : Nat} {a : Act} {K : Act → Prop} {K' : Act → World → Prop} {Q' : Exit → Act → World → Prop} {L : Nat → Bool} {w : World} (hL : L i = false) (hc : Closed md ops L) (hrd : ∀ o, ops[i]? = some o → ∀ e ∈ o.after, Region.binds md e = true → L e.on = true) (hd : D L w)
    (h : ∀ a w', D (bump L i) w' → K a → K' a w') (hh : gOp P ops md D i K a) : wpOp P ops Q' i K' a w := by
  obtain ⟨o, v, ho, hy, hk⟩ := hh
  unfold wpOp
  simp only [ho]
  rcases hy with ⟨hw, hv⟩ | ⟨hw, rfl, hv⟩
  · simp only [hw, if_true]
    left
    have h3 := hv L w hL ⟨hc, hrd o ho⟩ hd
    unfold Oper.wp
    generalize (execOp a.eval o).run P w = r at *
    cases r with
    | ok n w' =>
      cases n <;> simp only [gUpon] at h3 <;> simp only [Oper.upon]
      case value u =>
        obtain ⟨e1, e2⟩ := h3
        rw [e1]
        exact h _ _ e2 hk
      case skip =>
        obtain ⟨e1, e2⟩ := h3
        rw [← e1]
        exact h _ _ e2 hk
      case enter f args =>
        obtain ⟨e1, hcl⟩ := h3
        rw [e1]
        exact hcl.mono fun e w'' ⟨he, hw''⟩ => by subst he; exact h _ _ hw'' hk
    | halt x w' => simp only [gUpon] at h3
  · simp only [hw, Bool.false_eq_true, if_false]
    exact h _ _ (hv L w hL ⟨hc, hrd o ho⟩ hd) hk

theorem wpAny_of_G {Q : Array Bool → Act → Prop} {Q' : Exit → Act → World → Prop} (hQ : ∀ listed a w, D (lst listed) w → Q listed a → Q' .normal a w) :
    ∀ (fuel : Nat) (listed : Array Bool) (a : Act) (w : World), listed.size = ops.size → Closed md ops (lst listed) → D (lst listed) w → wpAnyG P md ops D Q fuel listed a → wpAny P md ops Q' fuel listed a w
  | 0, _, _, _, _, _, hw, h => ⟨h.1, hQ _ _ _ hw h.2⟩
  | fuel + 1, listed, a, w, hz, hc, hw, h => ⟨fun h0 => hQ _ _ _ hw (h.1 h0), fun i hi => by
    have hin : i < listed.size := by
      obtain ⟨_, oi, hoi, _⟩ := mem_ready.1 hi
      rw [hz]
      exact (Array.getElem?_eq_some_iff.1 hoi).1
    refine wpOp_of_gOp (L := lst listed) (getD_both (mem_ready.1 hi).1) hc (fun o ho => by
      obtain ⟨_, o', ho', hall⟩ := mem_ready.1 hi
      have : o = o' := Option.some.inj (ho.symm.trans ho')
      subst this
      exact hall) hw (fun a' w' hw' h' => ?_) (h.2 i hi)
    rw [← lst_set hin] at hw'
    refine wpAny_of_G hQ fuel _ a' w' (by simpa using hz) ?_ hw' h'
    rw [lst_set hin]
    exact closed_set hc hi hz⟩

theorem wpAnyG_first {Q : Array Bool → Act → Prop} {i : Nat} {oi : Oper} {v : Value} (hi : ops[i]? = some oi) (hsel : ∀ (j : Nat) (o : Oper) cs b, ops[j]? = some o → o.op ≠ .select cs b) :
    ∀ (fuel : Nat) (listed : Array Bool) (a : Act),
      (∀ j oj, ops[j]? = some oj → j ≠ i → listed.getD j true = false → (∀ e ∈ oj.after, Region.binds md e = true → e.on ≠ i) → oi.apart ops oj = true) →
      i ∈ Region.ready md ops listed → GY P ops md D i oi v a →
      wpAnyG P md ops D Q fuel (listed.setIfInBounds i true) (a.put oi.dst v) → wpAnyG P md ops D Q (fuel + 1) listed a := by
  intro fuel
  induction fuel with
  | zero =>
    intro listed a _ hr hy H
    refine ⟨fun h => (by rw [h] at hr; cases hr), fun j hj => ?_⟩
    by_cases hji : j = i
    · subst hji; exact ⟨oi, v, hi, hy, H⟩
    · have := ready_mono hj hji
      rw [H.1] at this
      cases this
  | succ fuel ih =>
    intro listed a hfree hr hy H
    refine ⟨fun h => (by rw [h] at hr; cases hr), fun j hj => ?_⟩
    by_cases hji : j = i
    · subst hji; exact ⟨oi, v, hi, hy, H⟩
    · have h1 := H.2 j (ready_mono hj hji)
      obtain ⟨hjun, oj, hoj, hall⟩ := mem_ready.1 hj
      have hnot : ∀ e ∈ oj.after, Region.binds md e = true → e.on ≠ i := fun e he hb heq => by
        have h1 := hall e he hb
        have h0 := (mem_ready.1 hr).1
        rw [heq, getD_both h0] at h1
        cases h1
      have h2 := gOp_put hoj (hfree j oj hoj hji hjun hnot) (fun cs b => hsel i oi cs b hi) (fun cs b => hsel j oj cs b hoj) hy h1
      have hfree' : ∀ k ok, ops[k]? = some ok → k ≠ i → (listed.setIfInBounds j true).getD k true = false →
          (∀ e ∈ ok.after, Region.binds md e = true → e.on ≠ i) → oi.apart ops ok = true := fun k ok hk hki hun hno => by
        refine hfree k ok hk hki ?_ hno
        by_cases hjk : j = k
        · subst hjk; exact hjun
        · rw [getD_set_ne true hjk] at hun; exact hun
      refine gOp_mono (fun a' h3 => ih (listed.setIfInBounds j true) a' hfree' (ready_mono hr (Ne.symm hji)) h3.1 ?_) h2
      rw [Array.setIfInBounds_comm _ _ hji]
      exact h3.2

/-- The walk in the text's order. -/
def wpS (P : Program) (ops : Array Oper) (md : Region.Mode) (D : (Nat → Bool) → World → Prop) (Q : Act → Prop) : Nat → List Oper → Act → Prop
  | _, [], a => Q a
  | k, o :: rest, a => ∃ v, GY P ops md D k o v a ∧ wpS P ops md D Q (k + 1) rest (a.put o.dst v)

theorem wpAnyG_lex {Q : Act → Prop} (hs : Region.noSelect ops = true) : ∀ (l : List Oper) (k : Nat) (listed : Array Bool) (a : Act), (∀ j, l[j]? = ops[k + j]?) → k + l.length = ops.size → listed.size = ops.size →
    (∀ j, j < k → lst listed j = true) → Region.lexFrom md ops l.length k listed = true → wpS P ops md D Q k l a → wpAnyG P md ops D (fun listed' a' => (∀ j, j < ops.size → lst listed' j = true) ∧ Q a') l.length listed a
  | [], k, listed, a, _, hk, _, hl, hB, h => ⟨by simpa [Region.lexFrom] using hB, fun j hj => hl j (by simp at hk; omega), h⟩
  | o :: l, k, listed, a, hl, hk, hz, hj, hB, h => by
    have h0 : ops[k]? = some o := by simpa using (hl 0).symm
    simp only [List.length_cons, Region.lexFrom, Bool.and_eq_true] at hB
    obtain ⟨⟨hr, hf⟩, hB'⟩ := hB
    obtain ⟨v, hy, hK⟩ := h
    have hkl : k < listed.size := by rw [hz]; exact (Array.getElem?_eq_some_iff.1 h0).1
    refine wpAnyG_first h0 (Region.noSelect_spec hs) l.length listed a (Region.free_spec h0 hf) (by simpa using hr) hy ?_
    refine wpAnyG_lex hs l (k + 1) _ _ (fun j => by have := hl (j + 1); simpa [Nat.add_assoc, Nat.add_comm 1 j] using this) (by simp at hk; omega) (by simpa using hz) (fun j hjk => ?_) hB' hK
    rw [lst_set hkl]
    by_cases e : j = k
    · subst e; exact bump_at _ _
    · rw [bump_ne _ e]; exact hj j (by omega)

/-- **One walk, in the text's order, stage by stage.** -/
theorem wp_region_staged {id : Nat} {Q : Exit → Act → World → Prop} {a : Act} {w : World} {l : List Oper} (D : (Nat → Bool) → World → Prop) (hm : P.follows .mixedOrders = true) (hB : Region.lexB .any l.toArray = true)
    (h0 : ∀ L, (∀ j, L j = false) → D L w.drew)
    (h : wpS P l.toArray .any D (fun a' => ∀ L w', (∀ j, j < l.length → L j = true) → D L w' → Q .normal a' w') 0 l a) : (Code.region id l.toArray true).wp P Q a w := by
  simp only [Region.lexB, Bool.and_eq_true] at hB
  refine wp_region_any hm ?_
  have hL : ∀ j, lst (Array.replicate l.toArray.size false) j = false := fun j => getD_replicate_false _ _
  have H := wpAnyG_lex (D := D) (md := .any) hB.1 l 0 (Array.replicate l.toArray.size false) a (by simp) (by simp) (by simp) (fun j hj => absurd hj (Nat.not_lt_zero j)) (by simpa using hB.2) h
  refine wpAny_of_G (D := D) (Q := fun listed' a' => (∀ j, j < l.toArray.size → lst listed' j = true) ∧ ∀ L w', (∀ j, j < l.length → L j = true) → D L w' → Q .normal a' w') (fun listed a' w' hw' hq => hq.2 _ w' (fun j hj => hq.1 j (by simpa using hj)) hw') _ _ _ _ (by simp) (fun j oj _ hj => ?_) (h0 _ hL) (by simpa using H)
  rw [hL] at hj
  cases hj
end

/-- Operations that yield a value, and leave the world as it is. -/
def plainB : Op → Bool
  | .move _ | .assign _ | .pick .. | .load .. | .binOp .. | .unOp .. | .convert .. | .fieldAddr .. | .field .. | .indexAddr .. | .index .. | .extract .. | .slice .. => true
  | _ => false
theorem v_run {P : Program} {w w' : World} {s : Sem Value} {n : Next} (h : (do pure (Next.value (← s)) : Sem Next).run P w = .ok n w') : ∃ u, n = .value u := by
  simp only [Sem.run_bind] at h
  cases hs : s.run P w with
  | ok u w1 =>
    rw [hs] at h
    simp only [Result.andThen_ok, Sem.run_pure] at h
    cases h
    exact ⟨u, rfl⟩
  | halt x w1 =>
    rw [hs] at h
    cases h
theorem plain_run {P : Program} {w w' : World} {ev : Operand → Value} {o : Oper} {n : Next} (hp : plainB o.op = true) (h : (execOp ev o).run P w = .ok n w') : ∃ u, n = .value u := by
  unfold execOp at h
  cases ho : o.op <;> rw [ho] at hp h <;> simp only [plainB, Bool.false_eq_true] at hp <;> simp only at h
  case move => cases h; exact ⟨_, rfl⟩
  case assign => cases h; exact ⟨_, rfl⟩
  case pick c x y =>
    simp only [Sem.run_bind] at h
    cases hs : (asBool (ev c)).run P w with
    | ok u w1 =>
      rw [hs] at h
      simp only [Result.andThen_ok] at h
      cases u <;> (simp at h; exact ⟨_, h.1.symm⟩)
    | halt x w1 => rw [hs] at h; cases h
  all_goals exact v_run h

/-- The worlds of a class, as a type. -/
structure Sat (R : World → Prop) where
  v : World
  p : R v

section
variable {P : Program} {ops : Array Oper} {md : Region.Mode} {D : (Nat → Bool) → World → Prop} {Q : Act → Prop} {k : Nat} {o : Oper} {rest : List Oper} {a : Act}
theorem wpS_plain (R : World → Prop) (hR : ∀ L w, L k = false → Cl md ops o L → D L w → R w) (hD : ∀ L w, D L w → D (bump L k) w) (hp : plainB o.op = true) (hw : Region.wanted o (yielded ops a.tmps) = true)
    (h : ∀ K : Act → Prop, (∀ a, wpS P ops md D Q (k + 1) rest a → K a) → o.quiet P a (fun w' => ∃ x : Sat R, w' = x.v) K) : wpS P ops md D Q k (o :: rest) a := by
  obtain ⟨v, hv, hk⟩ := h _ fun _ h => h
  refine ⟨v, .inl ⟨hw, fun L w hL hc hd => ?_⟩, hk⟩
  have h3 := hv w ⟨⟨w, hR L w hL hc hd⟩, rfl⟩
  unfold Oper.quietAt at h3
  cases hr : (execOp a.eval o).run P w with
  | ok n w' =>
    rw [hr] at h3
    obtain ⟨u, rfl⟩ := plain_run hp hr
    simp only [Oper.quietUpon] at h3
    simp only [gUpon]
    exact ⟨h3.2, by rw [h3.1]; exact hD L w hd⟩
  | halt x w' => rw [hr] at h3; simp only [Oper.quietUpon] at h3
theorem wpS_skip (hD : ∀ L w, D L w → D (bump L k) w) (hw : Region.wanted o (yielded ops a.tmps) = false) (h : wpS P ops md D Q (k + 1) rest (a.put o.dst undef)) : wpS P ops md D Q k (o :: rest) a :=
  ⟨undef, .inr ⟨hw, rfl, fun L w _ _ hd => hD L w hd⟩, h⟩
theorem wpS_call (f : FuncId) (args : Array Value) (v : Value) (hw : Region.wanted o (yielded ops a.tmps) = true) (hrun : ∀ w, (execOp a.eval o).run P w = .ok (.enter f args) w)
    (hc : ∀ L w, L k = false → Cl md ops o L → D L w → Calls P f args w fun e w'' => e = .returned v ∧ D (bump L k) w'') (h : wpS P ops md D Q (k + 1) rest (a.put o.dst v)) : wpS P ops md D Q k (o :: rest) a :=
  ⟨v, .inl ⟨hw, fun L w hL hcl hd => by rw [hrun]; exact ⟨rfl, hc L w hL hcl hd⟩⟩, h⟩
theorem wpS_store (hw : Region.wanted o (yielded ops a.tmps) = true) (hs : ∀ L w, L k = false → Cl md ops o L → D L w → ∃ w', (execOp a.eval o).run P w = .ok .skip w' ∧ D (bump L k) w')
    (h : wpS P ops md D Q (k + 1) rest (a.put o.dst undef)) : wpS P ops md D Q k (o :: rest) a :=
  ⟨undef, .inl ⟨hw, fun L w hL hcl hd => by obtain ⟨w', hr, hd'⟩ := hs L w hL hcl hd; rw [hr]; exact ⟨rfl, hd'⟩⟩, h⟩
end

end Go.Proofs.Ytjfinnjmcnjciaa
