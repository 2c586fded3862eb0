/-
  Regions that draw their order, in two parts: some operations by stages, in whatever order; then one that all the others wait for (its value may be any: what is known of it is known behind it); then the rest by stages anew.
-/
import Derived.Test.YtppnhcdmaokjcaaStage
import Derived.Test.YtppnhcdmaokjcaaStageN
import Derived.Test.YtppnhcdmaokjcaaLater
namespace Go.Proofs.Ytppnhcdmaokjcaa
open Go.RowKit

/-- Each operation behind n waits for one that stands behind n, or for n. -/
def reachB (md : Region.Mode) (ops : Array Oper) (n : Nat) : Bool :=
  (List.range ops.size).all fun t => decide (t ≤ n) || (List.range t).any fun j => decide (n ≤ j) && Region.waitsFor md ops t j
def lexHeadB (md : Region.Mode) (ops : Array Oper) (B : Array Bool → Bool) : Nat → Nat → Array Bool → Bool
  | 0, _, listed => B listed
  | f + 1, k, listed => (Region.ready md ops listed).contains k && Region.free md ops listed k && lexHeadB md ops B f (k + 1) (listed.setIfInBounds k true)
def restB (md : Region.Mode) (ops : Array Oper) (n : Nat) (listed : Array Bool) : Bool :=
  decide (Region.ready md ops listed = [n]) && Region.lexFrom md ops (ops.size - (n + 1)) (n + 1) (listed.setIfInBounds n true)
def cutB (md : Region.Mode) (ops : Array Oper) (n : Nat) : Bool :=
  Region.noSelect ops && decide (n < ops.size) && Region.sinkB md ops n && reachB md ops n && lexHeadB md ops (restB md ops n) n 0 (Array.replicate ops.size false)

section
variable {P : Program} {ops : Array Oper} {md : Region.Mode} {D : (Nat → Bool) → World → Prop}

theorem waits_unready {listed : Array Bool} {i j : Nat} (hi : listed.getD i false = false) (hw : Region.waitsFor md ops j i = true) : j ∉ Region.ready md ops listed := fun hr => by
  obtain ⟨_, oj, hoj, hall⟩ := mem_ready.1 hr
  obtain ⟨oj', hoj', e, he, hb, hon⟩ := Region.waitsFor_spec hw
  have : oj' = oj := Option.some.inj (hoj'.symm.trans hoj)
  subst this
  have := hall e he hb
  rw [hon, hi] at this
  cases this
theorem tail_unready {n : Nat} {listed : Array Bool} (hs : Region.sinkB md ops n = true) (hc : reachB md ops n = true) (inv : HeadInv md ops n listed) :
    ∀ (d i : Nat), n - i = d → i < n → listed.getD i true = false → ∀ t, n ≤ t → t ∉ Region.ready md ops listed := by
  intro d
  induction d using Nat.strongRecOn with
  | _ d ih =>
    intro i hd hi hun t ht hr
    have hsz : t < ops.size := by
      obtain ⟨_, ot, hot, _⟩ := mem_ready.1 hr
      exact (Array.getElem?_eq_some_iff.1 hot).1
    by_cases htn : t = n
    · subst htn
      have h1 := List.all_eq_true.1 hs i (List.mem_range.2 hi)
      obtain ⟨j, hj, hj2⟩ := List.any_eq_true.1 h1
      simp only [Bool.and_eq_true, decide_eq_true_eq] at hj2
      have hjn := List.mem_range.1 hj
      by_cases e : j = t
      · subst e
        exact waits_unready (getD_both hun) hj2.2 hr
      · have hjs : j < listed.size := by rw [inv.size]; omega
        refine ih (t - j) (by omega) j rfl (by omega) (getD_in hjs ?_) t (Nat.le_refl _) hr
        cases hx : listed.getD j false with
        | false => rfl
        | true =>
          obtain ⟨oj, hoj, e', he', hb', hon'⟩ := Region.waitsFor_spec hj2.2
          have := inv.closed j oj hoj hx e' he' hb'
          rw [hon', getD_both hun] at this
          cases this
    · have h1 := List.all_eq_true.1 hc t (List.mem_range.2 hsz)
      simp only [Bool.or_eq_true, decide_eq_true_eq] at h1
      rcases h1 with h1 | h1
      · omega
      · obtain ⟨j, hj, hj2⟩ := List.any_eq_true.1 h1
        simp only [Bool.and_eq_true, decide_eq_true_eq] at hj2
        have hjt := List.mem_range.1 hj
        exact waits_unready (getD_both (inv.tail j hj2.1 (by omega))) hj2.2 hr

/-- The head still to come, whatever its order; then L. -/
def headG (P : Program) (md : Region.Mode) (ops : Array Oper) (D : (Nat → Bool) → World → Prop) (n : Nat) (L : Array Bool → Act → Prop) : Nat → Array Bool → Act → Prop
  | 0, listed, a => HeadInv md ops n listed ∧ L listed a
  | f + 1, listed, a => Region.ready md ops listed ≠ [] ∧ ∀ i ∈ Region.ready md ops listed, i < n ∧ gOp P ops md D i (headG P md ops D n L f (listed.setIfInBounds i true)) a

theorem headG_any {n g : Nat} {L : Array Bool → Act → Prop} {Q' : Exit → Act → World → Prop} (hL : ∀ listed a w, HeadInv md ops n listed → Closed md ops (lst listed) → D (lst listed) w → L listed a → wpAny P md ops Q' g listed a w) :
    ∀ (f : Nat) (listed : Array Bool) (a : Act) (w : World), listed.size = ops.size → Closed md ops (lst listed) → D (lst listed) w → headG P md ops D n L f listed a → wpAny P md ops Q' (f + g) listed a w := by
  intro f
  induction f with
  | zero => intro listed a w _ hc hw h; rw [Nat.zero_add]; exact hL _ _ _ h.1 hc hw h.2
  | succ f ih =>
    intro listed a w hz hc hw h
    rw [show f + 1 + g = (f + g) + 1 by omega]
    refine ⟨fun h0 => absurd h0 h.1, fun i hi => ?_⟩
    have hin : i < listed.size := by
      obtain ⟨_, oi, hoi, _⟩ := mem_ready.1 hi
      rw [hz]
      exact (Array.getElem?_eq_some_iff.1 hoi).1
    refine wpOp_of_gOp (L := lst listed) (getD_both (mem_ready.1 hi).1) hc (fun o ho => by
      obtain ⟨_, o', ho', hall⟩ := mem_ready.1 hi
      have : o = o' := Option.some.inj (ho.symm.trans ho')
      subst this
      exact hall) hw (fun a' w' hw' h' => ?_) (h.2 i hi).2
    rw [← lst_set hin] at hw'
    refine ih _ a' w' (by simpa using hz) ?_ hw' h'
    rw [lst_set hin]
    exact closed_set hc hi hz

theorem headG_first {n i : Nat} {oi : Oper} {v : Value} {L : Array Bool → Act → Prop} (hi : ops[i]? = some oi) (hsel : ∀ (j : Nat) (o : Oper) cs b, ops[j]? = some o → o.op ≠ .select cs b)
    (hs : Region.sinkB md ops n = true) (hc : reachB md ops n = true) (hin : i < n) (hdone : ∀ listed a, L listed a → ∀ j ∈ Region.ready md ops listed, n ≤ j) :
    ∀ (f : Nat) (listed : Array Bool) (a : Act), HeadInv md ops n listed →
      (∀ j oj, ops[j]? = some oj → j ≠ i → listed.getD j true = false → (∀ e ∈ oj.after, Region.binds md e = true → e.on ≠ i) → oi.apart ops oj = true) →
      i ∈ Region.ready md ops listed → GY P ops md D i oi v a →
      headG P md ops D n L f (listed.setIfInBounds i true) (a.put oi.dst v) → headG P md ops D n L (f + 1) listed a := by
  intro f
  induction f with
  | zero =>
    intro listed a inv _ hr hy H
    have hun := (mem_ready.1 hr).1
    refine ⟨List.ne_nil_of_mem hr, fun j hj => ?_⟩
    have hjn : j < n := Nat.lt_of_not_le fun h => tail_unready hs hc inv _ i rfl hin hun j h hj
    refine ⟨hjn, ?_⟩
    rcases Decidable.em (j = i) with rfl | hji
    · exact ⟨oi, v, hi, hy, H⟩
    · exact absurd hjn (Nat.not_lt.2 (hdone _ _ H.2 j (ready_mono hj hji)))
  | succ f ih =>
    intro listed a inv hfree hr hy H
    have hun := (mem_ready.1 hr).1
    refine ⟨List.ne_nil_of_mem hr, fun j hj => ?_⟩
    have hjn : j < n := Nat.lt_of_not_le fun h => tail_unready hs hc inv _ i rfl hin hun j h hj
    refine ⟨hjn, ?_⟩
    rcases Decidable.em (j = i) with rfl | hji
    · exact ⟨oi, v, hi, hy, H⟩
    · have h1 := (H.2 j (ready_mono hj hji)).2
      obtain ⟨hjun, oj, hoj, hall⟩ := mem_ready.1 hj
      have hnot : ∀ e ∈ oj.after, Region.binds md e = true → e.on ≠ i := fun e he hb heq => by
        have h3 := hall e he hb
        rw [heq, getD_both hun] at h3
        cases h3
      refine gOp_mono (fun a' h3 => ?_) (gOp_put hoj (hfree j oj hoj hji hjun hnot) (fun cs b => hsel i oi cs b hi) (fun cs b => hsel j oj cs b hoj) hy h1)
      refine ih (listed.setIfInBounds j true) a' (inv.set hj hjn) (fun k ok hk hki hun' hno => hfree k ok hk hki ?_ hno) (ready_mono hr (Ne.symm hji)) h3.1 ?_
      · rcases Decidable.em (j = k) with rfl | hjk
        · exact hjun
        · rwa [getD_set_ne true hjk] at hun'
      · rw [Array.setIfInBounds_comm _ _ hji]
        exact h3.2

theorem headG_lex {n : Nat} {B : Array Bool → Bool} {Lq : Act → Prop} (hsel : Region.noSelect ops = true) (hs : Region.sinkB md ops n = true) (hc : reachB md ops n = true) (hB0 : ∀ listed, B listed = true → ∀ j ∈ Region.ready md ops listed, n ≤ j) :
    ∀ (l : List Oper) (k : Nat) (listed : Array Bool) (a : Act), (∀ j, j < l.length → l[j]? = ops[k + j]?) → k + l.length = n → HeadInv md ops n listed →
    lexHeadB md ops B l.length k listed = true → wpS P ops md D Lq k l a →
    headG P md ops D n (fun listed' a' => B listed' = true ∧ Lq a') l.length listed a := by
  intro l
  induction l with
  | nil =>
    intro k listed a _ hk inv hB h
    exact ⟨inv, by simpa [lexHeadB] using hB, h⟩
  | cons o l ih =>
    intro k listed a hl hk inv hB h
    have h0 : ops[k]? = some o := by simpa using (hl 0 (by simp)).symm
    simp only [List.length_cons, lexHeadB, Bool.and_eq_true] at hB
    obtain ⟨⟨hr, hf⟩, hB'⟩ := hB
    simp only [List.length_cons] at hk
    have hkn : k < n := by omega
    have hr' : k ∈ Region.ready md ops listed := by simpa using hr
    obtain ⟨v, hy, hK⟩ := h
    refine headG_first h0 (Region.noSelect_spec hsel) hs hc hkn (fun listed' a' hL => hB0 _ hL.1) l.length listed a inv (Region.free_spec h0 hf) hr' hy ?_
    refine ih (k + 1) _ _ (fun j hj => ?_) (by omega) (inv.set hr' hkn) hB' hK
    have := hl (j + 1) (by simp; omega)
    simpa [Nat.add_assoc, Nat.add_comm 1 j] using this
end

/-- **The head by stages; operation n; the rest by stages anew.** -/
theorem wp_region_cut {P : Program} {id : Nat} {Q : Exit → Act → World → Prop} {a : Act} {w : World} {l : List Oper} (n : Nat) (D : (Nat → Bool) → World → Prop) (hm : P.follows .mixedOrders = true) (hB : cutB .any l.toArray n = true)
    (h0 : ∀ L, (∀ j, L j = false) → D L w.drew)
    (h : wpS P l.toArray .any D (fun a' => ∀ L w', (∀ j, j < n → L j = true) → (∀ j, n ≤ j → L j = false) → D L w' →
      wpOp P l.toArray Q n (fun a'' w'' => ∃ D2 : (Nat → Bool) → World → Prop, (∀ L, (∀ j, j ≤ n → L j = true) → (∀ j, n < j → L j = false) → D2 L w'') ∧
        wpS P l.toArray .any D2 (fun a3 => ∀ L w', (∀ j, j < l.length → L j = true) → D2 L w' → Q .normal a3 w') (n + 1) (l.drop (n + 1)) a'') a' w') 0 (l.take n) a) :
    (Code.region id l.toArray true).wp P Q a w := by
  simp only [cutB, Bool.and_eq_true, decide_eq_true_eq] at hB
  obtain ⟨⟨⟨⟨hsel, hn⟩, hs⟩, hc⟩, hlex⟩ := hB
  have hn' : n < l.length := by simpa using hn
  have htl : (l.take n).length = n := by simp; omega
  have inv0 : HeadInv .any l.toArray n (Array.replicate l.toArray.size false) :=
    ⟨by simp, fun j oj _ hl => (by rw [getD_replicate_false] at hl; cases hl), fun t _ ht => getD_in (by simpa using ht) (getD_replicate_false _ _)⟩
  have hB0 : ∀ listed, restB .any l.toArray n listed = true → ∀ j ∈ Region.ready .any l.toArray listed, n ≤ j := fun listed hb j hj => by
    simp only [restB, Bool.and_eq_true, decide_eq_true_eq] at hb
    rw [hb.1] at hj
    have : j = n := by simpa using hj
    omega
  have H := headG_lex (P := P) (md := .any) (D := D) hsel hs hc hB0 (l.take n) 0 _ a (fun j hj => by
    have hj' : j < n := by rw [htl] at hj; exact hj
    simp [hj']) (by simpa using htl) inv0 (by rw [htl]; exact hlex) h
  refine wp_region_any hm ?_
  have hL0 : ∀ j, lst (Array.replicate l.toArray.size false) j = false := fun j => getD_replicate_false _ _
  have H2 := headG_any (Q' := Q) (g := l.toArray.size - (n + 1) + 1) (fun listed a' w' inv hcl hw' hL => by
    obtain ⟨hb, hq⟩ := hL
    simp only [restB, Bool.and_eq_true, decide_eq_true_eq] at hb
    obtain ⟨hr, hlx⟩ := hb
    have hrn : n ∈ Region.ready .any l.toArray listed := by rw [hr]; simp
    have hall : ∀ j, j < n → lst listed j = true := fun j hj => by
      cases hx : lst listed j with
      | true => rfl
      | false => exact absurd hrn (tail_unready hs hc inv _ j rfl hj (getD_in (by rw [inv.size]; omega) hx) n (Nat.le_refl _))
    have hnone : ∀ j, n ≤ j → lst listed j = false := fun j hj => by
      by_cases hjs : j < l.toArray.size
      · exact getD_both (inv.tail j hj hjs)
      · unfold lst
        rw [Array.getD_eq_getD_getElem?, Array.getElem?_eq_none (by rw [inv.size]; omega)]
        rfl
    have hw2 := hq (lst listed) w' hall hnone hw'
    have hin : n < listed.size := by rw [inv.size]; exact hn
    refine ⟨fun h0 => (by rw [hr] at h0; cases h0), fun i hi => ?_⟩
    rw [hr] at hi
    obtain rfl : i = n := by simpa using hi
    refine wpOp_mono (fun a'' w'' hk => ?_) hw2
    obtain ⟨D2, hD2, hS⟩ := hk
    have hdl : (l.drop (i + 1)).length = l.toArray.size - (i + 1) := by simp
    have hall2 : ∀ j, j < i + 1 → lst (listed.setIfInBounds i true) j = true := fun j hj => by
      rw [lst_set hin]
      by_cases e : j = i
      · subst e; exact bump_at _ _
      · rw [bump_ne _ e]; exact hall j (by omega)
    have hnone2 : ∀ j, i < j → lst (listed.setIfInBounds i true) j = false := fun j hj => by
      rw [lst_set hin, bump_ne _ (by omega)]
      exact hnone j (by omega)
    have G := wpAnyG_lex (P := P) (D := D2) (md := .any) hsel (l.drop (i + 1)) (i + 1) (listed.setIfInBounds i true) a'' (fun j => by simp [List.getElem?_drop]) (by rw [hdl]; omega) (by simpa using inv.size) hall2 (by rw [hdl]; exact hlx) hS
    rw [hdl] at G
    exact wpAny_of_G (D := D2) (Q := fun listed' a' => (∀ j, j < l.toArray.size → lst listed' j = true) ∧ ∀ L w', (∀ j, j < l.length → L j = true) → D2 L w' → Q .normal a' w')
      (fun listed' a' w' hw' hq => hq.2 _ w' (fun j hj => hq.1 j (by simpa using hj)) hw') _ _ _ _ (by simpa using inv.size) (by rw [lst_set hin]; exact closed_set hcl hrn inv.size)
      (hD2 _ (fun j hj => hall2 j (by omega)) hnone2) G) _ _ _ _ (by simp) (fun j oj _ hj => by rw [hL0] at hj; cases hj) (h0 _ hL0) H
  rw [htl, show n + (l.toArray.size - (n + 1) + 1) = l.toArray.size by omega] at H2
  exact H2

/-- Operation n is a call: what it answers may be anything. -/
theorem wpOp_call {P : Program} {ops : Array Oper} {Q : Exit → Act → World → Prop} {n : Nat} {K : Act → World → Prop} {a : Act} {w : World} {o : Oper} (ho : ops[n]? = some o) (hw : Region.wanted o (yielded ops a.tmps) = true) (f : FuncId) (args : Array Value)
    (hrun : (execOp a.eval o).run P w = .ok (.enter f args) w) (hc : Calls P f args w fun e w' => ∃ v, e = .returned v ∧ K (a.put o.dst v) w') : wpOp P ops Q n K a w := by
  unfold wpOp
  simp only [ho, hw, if_true]
  left
  unfold Oper.wp
  rw [hrun]
  simp only [Oper.upon]
  exact hc.mono fun e w'' ⟨v, he, hk⟩ => by subst he; exact hk

end Go.Proofs.Ytppnhcdmaokjcaa
