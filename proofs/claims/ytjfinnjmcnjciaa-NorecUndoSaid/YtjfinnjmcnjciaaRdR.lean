/-
  The document's set: its contracts.
-/
import Derived.Test.YtjfinnjmcnjciaaRdW
namespace Go.Proofs.Ytjfinnjmcnjciaa
open Go.RowKit
attribute [local go_sem] Later.cell Later.frozen

def wcells (ws : List Wd) : List Value := ws.flatMap fun p => [.int .i64 p.1, .int .i64 p.2]
theorem wcells_len (ws : List Wd) : (wcells ws).length = ws.length * 2 := by
  induction ws with
  | nil => rfl
  | cons p l ih => simp only [wcells, List.flatMap_cons, List.length_append, List.length_cons, List.length_nil] at ih ⊢; omega
theorem wcells_snoc (ws : List Wd) (p : Wd) : wcells (ws ++ [p]) = wcells ws ++ [.int .i64 p.1, .int .i64 p.2] := by simp [wcells]
theorem wcells_at : ∀ (ws : List Wd) (k : Nat) (p : Wd), ws[k]? = some p → (wcells ws)[k * 2]? = some (.int .i64 p.1) ∧ (wcells ws)[k * 2 + 1]? = some (.int .i64 p.2)
  | [], k, p, h => by simp at h
  | q :: ws, 0, p, h => by
    simp at h
    subst h
    exact ⟨rfl, rfl⟩
  | q :: ws, k + 1, p, h => by
    have := wcells_at ws k p (by simpa using h)
    have e : wcells (q :: ws) = .int .i64 q.1 :: .int .i64 q.2 :: wcells ws := rfl
    rw [e, show (k + 1) * 2 = k * 2 + 1 + 1 by omega]
    simpa using this

/-- A slice of words that the call made, from block B on. -/
def WL (w : World) (B : Nat) (v : Value) (ws : List Wd) : Prop := w.ownsRow B 51 2 v ws.length (wcells ws)
theorem WL.nil (w : World) (B : Nat) : WL w B (.slice none 0 0) [] := World.ownsRow_nil _ _ _ _
theorem WL.old {w : World} {B : Nat} {v : Value} {ws : List Wd} (h : WL w B v ws) {g : Nat} (hg : v.ownBlock = some g) : B ≤ g ∧ g < w.heap.size := World.ownsRow.lt h g hg
theorem WL.kept {S : Nat → Prop} {w w' : World} {B : Nat} {v : Value} {ws : List Wd} (h : WL w B v ws) (hw : Wrote S w w') (hs : ∀ k, v.ownBlock = some k → ¬ S k) : WL w' B v ws := by
  refine ⟨h.1, ?_⟩
  rcases h.2 with h' | ⟨g, cap, cur, h1, h2, h3, h4⟩
  · exact .inl h'
  · refine .inr ⟨g, cap, cur, h1, h2, ?_, h4⟩
    rw [hw.block g (lt_of_block h3) (hs g (by simp [h1, Value.ownBlock]))]
    exact h3
theorem WL.below {w w' : World} {B : Nat} {v : Value} {ws : List Wd} (h : WL w B v ws) (hb : Below w.heap.size w w') : WL w' B v ws :=
  h.kept (Wrote.of_below hb (fun _ => False)) (fun _ _ h => h)
theorem WL.form {w : World} {B : Nat} {v : Value} {ws : List Wd} (h : WL w B v ws) : ∃ a c, v = .slice a ws.length c ∧ WRow w a ws.length ws := by
  rcases h.2 with ⟨h1, h0⟩ | ⟨g, cap, cur, h1, h2, h3, h4, h5, h6⟩
  · exact ⟨none, 0, by rw [h1, h0], rfl, .inl h0⟩
  · subst h1
    refine ⟨some ⟨g, 0, none⟩, cap, rfl, rfl, .inr ⟨g, 0, rfl, lt_of_block h3, fun k p hk => ?_⟩⟩
    have hkl := (List.getElem?_eq_some_iff.1 hk).1
    have h7 := wcells_at ws k p hk
    refine ⟨?_, ?_⟩
    · rw [Nat.zero_add, World.ownsRow.cellAt h (k * 2) (by omega)]; exact h7.1
    · rw [Nat.zero_add, World.ownsRow.cellAt h (k * 2 + 1) (by omega)]; exact h7.2
theorem infoWd : (Try.prog.info? 51).map (fun i => (i.zero, i.size, i.bytes)) = some (some (.agg #[.int .i64 0, .int .i64 0]), 2, 16) := by kernel_rfl
/-- append of one word. -/
theorem wp_append_wl {o : Oper} {a : Act} {W : World} {K : Act → World → Prop} {Q : Exit → Act → World → Prop} (s x : Operand)
    (ho : o.op = .call { callee := .builtin .append, args := #[s, x], argTypes := #[44, 44] })
    {B : Nat} {v : Value} {ws : List Wd} (hs : a.eval s = v) (hown : WL W B v ws) {ad : Addr} {c : Nat} (p : Wd) (hx : a.eval x = .slice (some ad) 1 c)
    (h0 : W.cell? (ad.add 0) = some (.int .i64 p.1)) (h1 : W.cell? (ad.add 1) = some (.int .i64 p.2)) (h6 : ws.length + 1 ≤ 1000) (hB : B ≤ W.heap.size)
    (h : ∀ v' w', WL w' B v' (ws ++ [p]) → Wrote (fun b => v.ownBlock = some b) W w' → (v'.ownBlock = v.ownBlock ∨ v'.ownBlock = some W.heap.size) → K (a.put o.dst v') w') : o.wp Try.prog a W K Q := by
  obtain ⟨iI, hi, hz0, hz1, hz2⟩ := info_parts infoWd
  obtain ⟨v', w', hr, h2, h3, h4, h5⟩ := run_append_own_at (P := Try.prog) W B 44 o.type 51 iI (.agg #[.int .i64 0, .int .i64 0]) 2 16 Try.underlying44 hi hz0 hz1 hz2 rfl (by decide) v ws.length (wcells ws) hown ad 1 c [.int .i64 p.1, .int .i64 p.2] (by simp)
    (fun j u hu => by
      match j, hu with
      | 0, hu => simp at hu; subst hu; exact h0
      | 1, hu => simp at hu; subst hu; exact h1)
    (fun u hu => by simp at hu; rcases hu with rfl | rfl <;> rfl) (by unfold maxLen; omega) (by omega) hB
  unfold Oper.wp execOp
  simp only [ho, resolve, invoke, builtin, Sem.run_bind, Sem.run_pure, Result.andThen_ok, List.map_toArray, List.map_cons, List.map_nil, hs, hx, hr]
  refine h v' w' ?_ ((Wrote.refl _ W).grown h3 fun j hj _ => hj) h5
  unfold WL
  rw [wcells_snoc, List.length_append, List.length_singleton]
  exact h2
theorem wpList_append_wl {ops : Array Oper} {rest : List Oper} {o : Oper} {a : Act} {W0 : World} {Q : Exit → Act → World → Prop} (hgd : o.guard = none) (s x : Operand)
    (ho : o.op = .call { callee := .builtin .append, args := #[s, x], argTypes := #[44, 44] })
    {B : Nat} {v : Value} {ws : List Wd} (hs : a.eval s = v) (hown : WL W0 B v ws) {H : Nat} (hH : W0.heap.size = H) {p : Wd} (hx : a.eval x = .slice (some ⟨H, 0, none⟩) 1 1)
    (h6 : ws.length + 1 ≤ 1000) (hB : B ≤ W0.heap.size)
    (h : ∀ v' w', WL w' B v' (ws ++ [p]) → Wrote (fun b => v.ownBlock = some b) W0 w' → (∀ g, v'.ownBlock = some g → v.ownBlock = some g ∨ W0.heap.size ≤ g) → wpList Try.prog ops Q rest (a.put o.dst v') w') : wpList Try.prog ops Q (o :: rest) a (W0.alloc (.cells #[.int .i64 p.1, .int .i64 p.2] 51)) := by
  subst hH
  have hb := bnew (bid W0) (.cells #[.int .i64 p.1, .int .i64 p.2] 51)
  have hsz : (W0.alloc (.cells #[.int .i64 p.1, .int .i64 p.2] 51)).heap.size = W0.heap.size + 1 := size_alloc1 _ _
  refine wpList_plain hgd fun K hK => ?_
  refine wp_append_wl s x ho hs (hown.below hb) p hx ?_ ?_ h6 (by omega) fun v' w' h1 h2 h3 => hK _ _ (h v' w' h1 ?_ ?_)
  · rw [add_at]; exact cell_of_blk (heap_alloc_new _ _) 0
  · rw [add_at]; exact cell_of_blk (heap_alloc_new _ _) 1
  · exact (Wrote.of_below hb _).trans h2
  · intro g hg
    rcases h3 with h3 | h3
    · exact .inl (by rw [← h3]; exact hg)
    · rw [h3] at hg
      simp only [Option.some.injEq] at hg
      exact .inr (by omega)

/-! ### find -/
def findF (ws : List Wd) (k : Int) : Int := match ws.findIdx? (fun p => p.1 == k) with | some i => (i : Int) | none => -1
theorem findF_hit {ws : List Wd} {i : Nat} {p : Wd} {k : Int} (h : ws[i]? = some p) (hk : p.1 = k) (hf : hasL (ws.take i) k = false) : findF ws k = i := by
  obtain ⟨hl, he⟩ := List.getElem?_eq_some_iff.1 h
  have : ws.findIdx? (fun p => p.1 == k) = some i := by
    rw [List.findIdx?_eq_some_iff_getElem]
    refine ⟨hl, by rw [he]; simpa using hk, fun j hj hx => ?_⟩
    have : hasL (ws.take i) k = true := hasL_hit (i := j) (p := ws[j]) (by rw [List.getElem?_take_of_lt hj]; exact List.getElem?_eq_getElem _) (by simpa using hx)
    rw [hf] at this
    cases this
  unfold findF
  rw [this]
theorem findF_none {ws : List Wd} {k : Int} (hf : hasL ws k = false) : findF ws k = -1 := by
  have : ws.findIdx? (fun p => p.1 == k) = none := by
    rw [List.findIdx?_eq_none_iff]
    intro p hp
    cases hx : (p.1 == k) with
    | false => rfl
    | true =>
      have : hasL ws k = true := List.any_eq_true.2 ⟨p, hp, hx⟩
      rw [hf] at this
      cases this
  unfold findF
  rw [this]
theorem findF_has {ws : List Wd} {k : Int} (hf : hasL ws k = true) : 0 ≤ findF ws k := by
  unfold findF
  cases h : ws.findIdx? (fun p => p.1 == k) with
  | some i => simp
  | none =>
    rw [List.findIdx?_eq_none_iff] at h
    obtain ⟨p, hp, hx⟩ := List.any_eq_true.1 hf
    have := h p hp
    rw [hx] at this
    cases this

theorem cap_ret {r s : Int} (h : ((capF r : Nat) : Int) = s) : Ending.returned (.int .i64 s) = Ending.returned (.int .i64 (capF r)) := by rw [h]
end Go.Proofs.Ytjfinnjmcnjciaa
