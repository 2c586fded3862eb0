/-
  A map of places: what a law lays it up from; an attempt alone beside such a map.
-/
import Derived.Test.YtjfinnjmcnjciaaNqG
import Derived.Maps.OwnOps
import Derived.Maps.OwnSet
import Derived.Maps.Views
import Derived.DataShut
namespace Go.Proofs.Ytjfinnjmcnjciaa
open Go.RowKit Go.Maps

def IntR : Value → Option (DataW Unit × List MemPlace)
  | .int .i64 a => some (.lit (.int .i64 a), [])
  | _ => none
theorem IntR_inv {v : Value} {z : DataW Unit × List MemPlace} (h : IntR v = some z) : ∃ a, v = .int .i64 a ∧ z = (.lit (.int .i64 a), []) := by
  unfold IntR at h
  split at h
  · exact ⟨_, rfl, (Option.some.inj h).symm⟩
  · cases h
theorem lawI : Keyed Try.prog 3 := int_keyed Try.underlying3
theorem zeroI64 (w : World) : (zeroValue 2).run Try.prog w = .ok (.int .i64 0) w := by kernel_rfl
theorem keyI {a : Int} (h0 : 0 ≤ a) (h1 : a < 34) : keyOf Try.prog 3 (.int .i64 a) = some (.int .i64 a) := keyOf_int_mk Try.underlying3 (by
  rw [Lit.wf_int_iff]; show (-9223372036854775808 : Int) ≤ a ∧ a ≤ 9223372036854775807; omega)
def wantD (ws : List Wd) : DataW Unit := ws.foldl (fun D p => D.put (.int .i64 p.1) (.lit (.int .i64 p.2))) (.map [])
theorem wantD_snoc (ws : List Wd) (p : Wd) : wantD (ws ++ [p]) = (wantD ws).put (.int .i64 p.1) (.lit (.int .i64 p.2)) := by simp [wantD]
theorem wantD_map (ws : List Wd) : IsMap (wantD ws) := by
  have key : ∀ (ws : List Wd) (D : DataW Unit), IsMap D → IsMap (ws.foldl (fun D p => D.put (.int .i64 p.1) (.lit (.int .i64 p.2))) D) := by
    intro ws
    induction ws with
    | nil => exact fun D h => h
    | cons p ws ih =>
      intro D h
      obtain ⟨es, rfl⟩ := h
      exact ih _ ⟨_, rfl⟩
  exact key ws _ isMap_empty
theorem wantD_facts {ws : List Wd} (h : WsOk ws) (a : Int) : ∀ i, i ≤ ws.length → has (wantD (ws.take i)) (.int .i64 a) = hasL (ws.take i) a ∧ (wantD (ws.take i)).atKey (.int .i64 a) (.lit (.int .i64 0)) = .lit (.int .i64 (valL (ws.take i) a)) := by
  intro i
  induction i with
  | zero => exact fun _ => ⟨rfl, rfl⟩
  | succ i ih =>
    intro hi
    obtain ⟨p, hp⟩ : ∃ p, ws[i]? = some p := ⟨_, List.getElem?_eq_getElem (by omega)⟩
    obtain ⟨h1, h2⟩ := ih (by omega)
    have hf := h.first hp
    rw [take_more hp, wantD_snoc, hasL_snoc]
    have hv : valL (ws.take i ++ [p]) a = if p.1 = a then p.2 else valL (ws.take i) a := valL_snoc _ _ _ _ hf
    rw [hv]
    by_cases e : p.1 = a
    · subst e
      rw [if_pos rfl, has_put_same (wantD_map _) (by trivial), atKey_put_same (wantD_map _) (by trivial)]
      exact ⟨by simp, rfl⟩
    · have hne : (Lit.int .i64 a) ≠ (Lit.int .i64 p.1) := fun h => by injection h with _ h; exact e h.symm
      rw [if_neg e, has_put_other hne, atKey_put_other hne, h1, h2]
      have hb : (p.1 == a) = false := by rw [beq_eq_false_iff_ne]; exact e
      rw [hb, Bool.or_false]
      exact ⟨rfl, rfl⟩

/-- A map of places. -/
def IM (w : World) (b : Nat) (ws : List Wd) : Prop := w.ownsMap Try.prog 3 IntR b ws.length (wantD ws)
theorem IM.made (w : World) : IM (w.alloc (.map #[] 0)) w.heap.size [] := World.ownsMap_made _ _ _ _
theorem IM.lt {w : World} {b : Nat} {ws : List Wd} (h : IM w b ws) : b < w.heap.size := World.ownsMap.lt h
theorem IM.same {w w' : World} {b : Nat} {ws : List Wd} (h : IM w b ws) (hb : w'.heap[b]? = w.heap[b]?) : IM w' b ws := by
  obtain ⟨es, clock, h1, F, hs, hD⟩ := h
  exact ⟨es, clock, hb.trans h1, F, hs, hD⟩
theorem IM.below {w w' : World} {b : Nat} {ws : List Wd} (h : IM w b ws) (hb : Below w.heap.size w w') : IM w' b ws := h.same (hb.block b h.lt)
theorem IM.put {w : World} {b : Nat} {ws : List Wd} (h : IM w b ws) (hl : ws.length ≤ 100) {a : Int} (v : Int) (h0 : 0 ≤ a) (h1 : a < 34) :
    ∃ w', (Instr.mapUpdate 38 (.map (some b)) (.int .i64 a) (.int .i64 v)).run Try.prog w = .ok () w' ∧ IM w' b (ws ++ [(a, v)]) ∧ w.grownBy w' (some b) := by
  obtain ⟨w', r1, r2, r3⟩ := World.ownsMap.update h lawI Try.underlying38 (by unfold maxLen; omega) (keyI h0 h1) (val := .int .i64 v) (d := .lit (.int .i64 v)) (ps := []) rfl
  refine ⟨w', r1, ?_, r3⟩
  unfold IM
  rw [wantD_snoc, List.length_append, List.length_singleton]
  exact r2
theorem IM.look {w : World} {b : Nat} {ws : List Wd} (h : IM w b ws) (hw : WsOk ws) {a : Int} (h0 : 0 ≤ a) (h1 : a < 34) :
    (Instr.lookup 38 (.map (some b)) (.int .i64 a) true).run Try.prog w = .ok (.tuple #[.int .i64 (valL ws a), .bool (hasL ws a)]) w := by
  obtain ⟨v, ps, r1, r2⟩ := World.ownsMap.look_ok h lawI Try.underlying38 (zeroI64 w) (zd := .lit (.int .i64 0)) (zp := []) rfl (keyI h0 h1)
  obtain ⟨c, rfl, hc⟩ := IntR_inv r2
  have hf := wantD_facts hw a ws.length (Nat.le_refl _)
  rw [List.take_length] at hf
  rw [r1, hf.1]
  have h3 : (DataW.lit (.int .i64 (valL ws a)) : DataW Unit) = .lit (.int .i64 c) := by rw [← hf.2]; exact (Prod.mk.inj hc).1
  have h4 : valL ws a = c := by simpa using h3
  rw [h4]

/-- How many of the first places are there. -/
def cntW (ws : List Wd) : Nat → Nat
  | 0 => 0
  | d + 1 => cntW ws d + (if hasL ws (dataP d) = true then 1 else 0)
theorem WsOk.count {ws : List Wd} (h : WsOk ws) : cntW ws 4 = ws.length := by
  have key : ∀ i, i ≤ ws.length → cntW (ws.take i) 4 = i := by
    intro i
    induction i with
    | zero => exact fun _ => rfl
    | succ i ih =>
      intro hi
      obtain ⟨p, hp⟩ : ∃ p, ws[i]? = some p := ⟨_, List.getElem?_eq_getElem (by omega)⟩
      have h1 := ih (by omega)
      have hf := h.first hp
      obtain ⟨d, hd, hpd⟩ := h.one p (List.mem_of_getElem? hp)
      rw [take_more hp]
      rw [hpd] at hf
      have e4 : ∀ l : List Wd, cntW l 4 = (if hasL l 26 = true then 1 else 0) + (if hasL l 28 = true then 1 else 0) + (if hasL l 30 = true then 1 else 0) + (if hasL l 32 = true then 1 else 0) := fun l => by
        show 0 + _ + _ + _ + _ = _
        rw [Nat.zero_add]
        rfl
      rw [e4] at h1 ⊢
      have hb : ∀ k : Int, hasL (ws.take i ++ [p]) k = (hasL (ws.take i) k || (dataP d == k)) := fun k => by rw [hasL_snoc, hpd]
      simp only [hb]
      clear hb e4
      generalize hasL (ws.take i) = F at h1 hf ⊢
      have hd' : d = 0 ∨ d = 1 ∨ d = 2 ∨ d = 3 := by omega
      rcases hd' with rfl | rfl | rfl | rfl
      · have hf : F 26 = false := hf
        rw [show (dataP 0 == 26) = true from rfl, show (dataP 0 == 28) = false from rfl, show (dataP 0 == 30) = false from rfl, show (dataP 0 == 32) = false from rfl, hf]
        rw [hf] at h1
        simp at h1 ⊢
        omega
      · have hf : F 28 = false := hf
        rw [show (dataP 1 == 26) = false from rfl, show (dataP 1 == 28) = true from rfl, show (dataP 1 == 30) = false from rfl, show (dataP 1 == 32) = false from rfl, hf]
        rw [hf] at h1
        simp at h1 ⊢
        omega
      · have hf : F 30 = false := hf
        rw [show (dataP 2 == 26) = false from rfl, show (dataP 2 == 28) = false from rfl, show (dataP 2 == 30) = true from rfl, show (dataP 2 == 32) = false from rfl, hf]
        rw [hf] at h1
        simp at h1 ⊢
        omega
      · have hf : F 32 = false := hf
        rw [show (dataP 3 == 26) = false from rfl, show (dataP 3 == 28) = false from rfl, show (dataP 3 == 30) = false from rfl, show (dataP 3 == 32) = true from rfl, hf]
        rw [hf] at h1
        simp at h1 ⊢
        omega
  have := key ws.length (Nat.le_refl _)
  rwa [List.take_length] at this

section
variable {ck wv : Int} {s : MS} {x : TX}
theorem EX.dat (h : EX wv s x) {d : Nat} (hd : d < 4) : s.vAt (dataP d) = valL x.ws (dataP d) := by
  rcases h.mem with ⟨e, m⟩ | ⟨_, _, _, m⟩
  · rw [e]; exact m.dat d hd
  · exact m.dat d hd
theorem EX.ph (h : EX wv s x) : s.vAt 13 = 0 := by
  rcases h.mem with ⟨_, m⟩ | ⟨_, _, _, m⟩ <;> exact m.ph
end

variable {w W W2 : World} {g1 bm ub mb : Nat} {vw : Value} {u : RU} {s : MS} {N : Nat} {ws : List Wd}
/-- The law's world, with the map beside it. -/
structure LwM (w : World) (g1 bm ub mb : Nat) (vw : Value) (u : RU) (s : MS) (N : Nat) (ws : List Wd) (W : World) : Prop where
  ex : ∃ ρ, RX W ρ 0 ub u w.heap.size mb vw s N ∧ (∀ k, k < w.heap.size → ρ k = 99) ∧ ρ g1 = 0 ∧ ρ bm = 0
  map : W.heap[g1]? = some (.cells #[.int .i64 3, .int .i64 1, .int .i64 3, .int .i64 0, .int .i64 4] 31 (0, 0))
  nm : ¬ MemS mb vw g1
  nb : ¬ MemS mb vw bm
  old : w.heap.size ≤ bm
  im : IM W bm ws
  below : Below w.heap.size w W
theorem LwM.lw (h : LwM w g1 bm ub mb vw u s N ws W) : LwS w g1 ub mb vw u s N W := by
  obtain ⟨ρ, hx, ho, hg, _⟩ := h.ex
  exact ⟨⟨ρ, hx, ho, hg⟩, h.map, h.nm, h.below⟩
theorem LwM.next (h : LwM w g1 bm ub mb vw u s N ws W) (hj : ∃ J : RU → Prop, J u ∧ (∀ v, J v → v.busy = false → v.fin = 0 → AskOk v ∧ J (askR v)) ∧ ((asksR 9 u).busy = true ∨ (asksR 9 u).fin ≠ 0) ∧ ((asksR 9 u).fin = 0 → StOk s (asksR 9 u))) (hN : N ≤ 80000) :
    Calls Try.prog 18 #[.pointer (some ⟨ub, 0, none⟩), .pointer (some ⟨mb, 0, none⟩), .agg #[.int .i64 3, .int .i64 1, .int .i64 3, .int .i64 0, .int .i64 4]] W fun e W2 => e = .returned (.tuple #[]) ∧ LwM w g1 bm ub mb vw (nextR s u).1 (nextR s u).2 (N + 10) ws W2 := by
  obtain ⟨J, j1, j2, j3, j4⟩ := hj
  obtain ⟨ρ, hx, ho, hg, hbm⟩ := h.ex
  refine (rnext_any hx j1 j2 j3 j4 hN).mono ?_
  rintro e W2 ⟨rfl, ρ', g, x', k⟩
  have hl := h.lw.turn ho hg hx.m0 x' g k
  refine ⟨rfl, ⟨ρ', x', fun i hi => (g i (Nat.lt_of_lt_of_le hi h.below.size)).trans (ho i hi), (g _ (lt_of_block h.map)).trans hg, (g _ h.im.lt).trans hbm⟩, hl.map, h.nm, h.nb, h.old, h.im.same (k.block _ h.im.lt fun hs => ?_), hl.below⟩
  rcases hs with hs | hs
  · have := hs.1; omega
  · exact h.nb hs
theorem LwM.start {w w1 w2 w3 w4 : World} {g1 mb c xb : Nat} {vw vr v : Value} {ρ' : Nat → Nat} {l : PL} {pl : Pl} {ck : Int} (hg1 : w.heap.size ≤ g1) (hmap : w1.heap[g1]? = some (.cells #[.int .i64 3, .int .i64 1, .int .i64 3, .int .i64 0, .int .i64 4] 31 (0, 0))) (hb1 : Below w.heap.size w w1)
    (hp : Pair w2 w1.heap.size mb vw c vr S0 S0) (hb2 : Below w1.heap.size w1 w2) (hpo : PO w3 (w2.alloc (.map #[] 0)).heap.size v pl) (hb3 : Below (w2.alloc (.map #[] 0)).heap.size (w2.alloc (.map #[] 0)) w3) (hlen : pl.length ≤ 50) (hg : Gr (rho0 w v) ρ' w3) (hx : PX w4 ρ' 0 xb (PT.new mT 1 32 32 1000) l) (hb4 : Below w3.heap.size w3 w4) :
    LwM w g1 w2.heap.size w4.heap.size mb vw (RU.new 1 ck pl) S0 0 [] (w4.alloc (.cells #[.pointer (some ⟨xb, 0, none⟩), v, .int .i64 0, .bool false, .int .i64 0, .slice none 0 0] 46)) := by
  have hlt := lt_of_block hmap
  have hba := bnew (bid w2) (.map #[] 0)
  have sa : (w2.alloc (.map #[] 0)).heap.size = w2.heap.size + 1 := size_alloc1 _ _
  have hb23 : Below w2.heap.size w2 w3 := bthen hba hb3
  have s1 := hb1.size
  have s2 := hb2.size
  have s3 := hb3.size
  have s4 := hb4.size
  have hb5 := bnew (bid w4) (.cells #[.pointer (some ⟨xb, 0, none⟩), v, .int .i64 0, .bool false, .int .i64 0, .slice none 0 0] 46)
  have hb24 := bthen hb23 hb4
  have hmlt : ∀ k, MemS mb vw k → k < w2.heap.size ∧ w1.heap.size ≤ k := fun k hk => by
    refine ⟨?_, Nat.le_of_not_lt fun h => hp.mem.old k h hk⟩
    rcases hk with rfl | hk
    · exact hp.mem.lt
    · exact (hp.mem.row.lt k hk).2
  have hm4 : Mem w4 w1.heap.size mb vw S0 := hp.mem.kept (Wrote.of_below hb24 (fun _ => False)) (fun _ _ h => h)
  have hr : ∀ k, k < w3.heap.size → newR ρ' w4.heap.size 8 k = rho0 w v k := fun k hk => by rw [newR_old (by omega)]; exact hg k hk
  have hown : ∀ k, v.ownBlock = some k → w2.heap.size + 1 ≤ k ∧ k < w3.heap.size := fun k hk => by
    have := hpo.old hk
    omega
  have hm0 : ∀ k, MemS mb vw k → newR ρ' w4.heap.size 8 k = 0 := fun k hk => by
    have h1 := hmlt k hk
    rw [hr k (by omega)]
    unfold rho0
    rw [if_neg (by omega), if_neg (fun e => by have := hown k e; omega)]
  have hpx : PX (w4.alloc (.cells #[.pointer (some ⟨xb, 0, none⟩), v, .int .i64 0, .bool false, .int .i64 0, .slice none 0 0] 46)) (newR ρ' w4.heap.size 8) 0 xb (PT.new mT 1 32 32 1000) l := (hx.gr (newR_gr ρ' w4 8)).below hb5
  have hm5 : Mem (w4.alloc (.cells #[.pointer (some ⟨xb, 0, none⟩), v, .int .i64 0, .bool false, .int .i64 0, .slice none 0 0] 46)) w.heap.size mb vw S0 := (hm4.kept (Wrote.of_below hb5 (fun _ => False)) (fun _ _ h => h)).mono s1
  have hpo5 := (hpo.below hb4).below hb5
  obtain ⟨a, cc, hv, hrow, hblk⟩ := hpo5.form
  refine ⟨⟨newR ρ' w4.heap.size 8, ⟨PT.new mT 1 32 32 1000, l, ⟨xb, a, cc, .slice none 0 0⟩, RP.new _ _ _ _ _, ⟨hpx, hm5, hm0⟩, ⟨?_, hrow, WL.nil _ _, newR_new (Nat.le_refl _), (fun k hk => by simp [Value.ownBlock] at hk), fun x hx hl => ?_, by show 0 ≤ 100; omega, hlen⟩, Nat.zero_le _, Nat.zero_le _⟩, fun k hk => ?_, ?_, ?_⟩, ?_, fun h => by have := (hmlt _ h).2; omega, fun h => by have := (hmlt _ h).1; omega, by omega, ((((IM.made w2).below hb3).below hb4).below hb5), bthen (bthen (bthen hb1 hb2) hb24) hb5⟩
  · rw [heap_alloc_new, hv]; rfl
  · have h1 := hblk x hx hl
    have h2 := hown _ h1
    refine ⟨?_, by rw [size_alloc1]; omega⟩
    rw [hr _ h2.2]
    unfold rho0
    rw [if_neg (by omega), if_pos h1]
  · rw [hr k (by omega)]
    unfold rho0
    rw [if_pos hk]
  · rw [hr g1 (by omega)]
    unfold rho0
    rw [if_neg (by omega), if_neg (fun e => by have := hown g1 e; omega)]
  · rw [hr w2.heap.size (by omega)]
    unfold rho0
    rw [if_neg (by omega), if_neg (fun e => by have := hown _ e; omega)]
  · exact (hb5.block _ (by omega)).trans ((hb24.block _ (by omega)).trans ((hb2.block _ hlt).trans hmap))

theorem LwM.later (h : LwM w g1 bm ub mb vw u s N ws W) (hb : Below W.heap.size W W2) : LwM w g1 bm ub mb vw u s N ws W2 := by
  obtain ⟨ρ, hx, ho, hg, hbm⟩ := h.ex
  exact ⟨⟨ρ, hx.below hb, ho, hg, hbm⟩, (hb.block _ (lt_of_block h.map)).trans h.map, h.nm, h.nb, h.old, h.im.below hb, bthen h.below hb⟩
/-- The map alone turned. -/
theorem LwM.put {ws' : List Wd} (h : LwM w g1 bm ub mb vw u s N ws W) (hne : g1 ≠ bm) (hi : IM W2 bm ws') (hg : W.grownBy W2 (some bm)) : LwM w g1 bm ub mb vw u s N ws' W2 := by
  have hw : Wrote (fun k => k = bm) W W2 := (Wrote.refl _ _).grown hg fun j hj _ => by injection hj with hj; exact hj.symm
  obtain ⟨ρ, ⟨p, l, m, hp, hx, hn, h1, h2⟩, ho, hg1, hbm⟩ := h.ex
  refine ⟨⟨ρ, ⟨p, l, m, hp, ⟨hx.px.kept hw fun k ho' hk => ?_, hx.mem.kept hw fun k hk e => ?_, hx.m0⟩, hn.kept hw fun k h3 h4 e => ?_, h1, h2⟩, ho, hg1, hbm⟩, (hw.block _ (lt_of_block h.map) hne).trans h.map, h.nm, h.nb, h.old, hi, h.below.trans (hw.below h.below.size fun k hk e => ?_)⟩
  · subst hk; have := ho'.1; omega
  · subst e; exact h.nb hk
  · subst e; omega
  · subst e; have := h.old; omega
theorem SA.pos {ck wv : Int} {wt : List Wd} (h : SA ck wt wv s u) : 0 < muS u := by
  have hf := h.fin
  cases hb : u.busy with
  | false => rw [muS_btw hf hb]; omega
  | true =>
    rcases h.jobs hb with hj | hj
    · rw [muS_rd hf hb hj]; omega
    · rw [muS_com hf hb hj]
      have := h.sx.mx_ge hj
      omega
/-- Each pick of one that nobody disturbs brings it nearer to its end. -/
theorem UnI.less {ck : Int} {pl : Pl} (h : UnI ck [] pl s u) (hck : ck = 1 ∨ ck = 2) (hp : pl.length ≤ 8 ∧ ∀ o ∈ pl, o.2.1 < 4) (hf : u.fin = 0) : 0 < muS u ∧ ((nextR s u).1.fin = 0 → muS (nextR s u).1 < muS u) := by
  cases h with
  | new hw hu hs =>
    subst hu hs
    have h1 := SA.begin (ck := ck) S0_mem hp
    have e : muS (RU.new 1 ck pl) = 6 * (pl.length + 1 - 0) + 100 := muS_btw rfl rfl
    rw [e]
    refine ⟨by omega, fun _ => ?_⟩
    rw [nextR_new S0_mem.seq, muS_btw rfl rfl]
    show 6 * (pl.length + 1 - 1) + 100 < _
    omega
  | on h hr =>
    have hn := SA.next (.inl rfl) hck h
    refine ⟨h.pos, fun hf' => ?_⟩
    generalize nextR s u = q at hn hf'
    cases hn with
    | on u' s' h plan less => exact less
    | undo u' s' h fin busy hw less => exact less
    | done u' s' h fin => rw [show u'.fin = 0 from hf'] at fin; cases fin
    | dead u' s' h fin hw => rw [show u'.fin = 0 from hf'] at fin; cases fin
  | done h fin => rw [hf] at fin; cases fin
theorem UnI.new_mu {ck : Int} {pl : Pl} (hp : pl.length ≤ 8) : muS (RU.new 1 ck pl) ≤ 200 := by
  have e : muS (RU.new 1 ck pl) = 6 * (pl.length + 1 - 0) + 100 := muS_btw rfl rfl
  rw [e]; omega
theorem UnI.ends {ck : Int} {pl : Pl} (h : UnI ck [] pl s u) (hf : u.fin ≠ 0) : EX 0 s u.x ∧ u.fin = 1 := by
  cases h with
  | new hw hu => subst hu; exact absurd rfl hf
  | on h hr => exact absurd h.fin hf
  | done h fin => exact ⟨h, fin⟩
theorem q_n8 {d n : Nat} (h : ¬ d < n) : ¬ (d : Int) < (n : Int) := by omega
theorem q_in8 {d n : Nat} (h : d < n) : (d : Int) < (n : Int) := by omega
theorem q_c1 {n : Nat} (h : n ≤ 8) : wrap64 ((n : Int) + 1) = ((n + 1 : Nat) : Int) := by unfold wrap64; omega
theorem cntW_le (ws : List Wd) : ∀ d, cntW ws d ≤ d
  | 0 => Nat.le_refl _
  | d + 1 => by
    have := cntW_le ws d
    unfold cntW
    split <;> omega
theorem dataP_in {d : Nat} (h : d < 4) : 0 ≤ dataP d ∧ dataP d < 34 := by unfold dataP; omega

theorem wpList_put_IM {ops : Array Oper} {rest : List Oper} {o : Oper} {a : Act} {W : World} {Q : Exit → Act → World → Prop} (hgd : o.guard = none) (m x v : Operand) (hop : o.op = Op.mapUpdate 38 m x v)
    {b : Nat} {ws : List Wd} (hm : a.eval m = .map (some b)) (h : IM W b ws) (hl : ws.length ≤ 100) {k pv : Int} (h0 : 0 ≤ k) (h1 : k < 34) (hx : a.eval x = .int .i64 k) (hv : a.eval v = .int .i64 pv)
    (hK : ∀ w', IM w' b (ws ++ [(k, pv)]) → W.grownBy w' (some b) → wpList Try.prog ops Q rest (a.put o.dst undef) w') : wpList Try.prog ops Q (o :: rest) a W := by
  refine wpList_plain hgd fun K' hK' => ?_
  obtain ⟨w', hrun, r1, r2⟩ := h.put hl pv h0 h1
  unfold Oper.wp
  simp [execOp, hop, hm, hx, hv, hrun, Result.andThen]
  exact hK' _ _ (hK w' r1 r2)
theorem WL.blockX {w : World} {B : Nat} {v : Value} {ws : List Wd} (h : WL w B v ws) (hl : 0 < ws.length) : ∃ g c, v = .slice (some ⟨g, 0, none⟩) ws.length c := by
  rcases h.2 with ⟨h1, h0⟩ | ⟨g, cap, cur, h1, _⟩
  · omega
  · exact ⟨g, cap, h1⟩
theorem WL.cellX {w : World} {B g m c : Nat} {ws : List Wd} (h : WL w B (.slice (some ⟨g, 0, none⟩) m c) ws) {i : Nat} {p : Wd} (hi : ws[i]? = some p) :
    w.cell? ⟨g, i * 2, none⟩ = some (.int .i64 p.1) ∧ w.cell? ⟨g, i * 2 + 1, none⟩ = some (.int .i64 p.2) ∧ w.frozen? ⟨g, i * 2 + 1, none⟩ = false := by
  have hkl := (List.getElem?_eq_some_iff.1 hi).1
  have h7 := wcells_at ws i p hi
  have hm : m = ws.length := by
    rcases h.2 with ⟨h1, h0⟩ | ⟨g', cap, cur, h1, _⟩
    · cases h1
    · simp only [Value.slice.injEq] at h1; exact h1.2.1
  subst hm
  refine ⟨?_, ?_, World.ownsRow.frozenAt h _⟩
  · rw [World.ownsRow.cellAt h (i * 2) (by omega)]; exact h7.1
  · rw [World.ownsRow.cellAt h (i * 2 + 1) (by omega)]; exact h7.2
theorem q_nb {n : Nat} (h : 0 < n) : ((n : Int) == 0) = false := by rw [beq_eq_false_iff_ne]; omega
theorem q_n0 {n : Nat} (h : 0 < n) : (0 : Int) < (n : Int) := by omega
theorem q_nz {n : Nat} (h : 0 < n) : ¬ (n : Int) = 0 := by omega
/-- append of one op, behind its own block. -/
theorem wpList_append_opX {ops : Array Oper} {rest : List Oper} {o : Oper} {a : Act} {W0 : World} {Q : Exit → Act → World → Prop} (hgd : o.guard = none) (s x : Operand)
    (ho : o.op = .call { callee := .builtin .append, args := #[s, x], argTypes := #[37, 37] })
    {B : Nat} {v : Value} {pl : Pl} (hs : a.eval s = v) (hown : PO W0 B v pl) {H : Nat} (hH : W0.heap.size = H) (c0 c1 c2 : Int) (p : Op3) (h0 : kindI p = c0) (h1 : (p.2.1 : Int) = c1) (h2 : p.2.2 = c2) (hx : a.eval x = .slice (some ⟨H, 0, none⟩) 1 1)
    (h6 : pl.length ≤ 900) (hB : B ≤ W0.heap.size)
    (h : ∀ v' w', PO w' B v' (pl ++ [p]) → Below B W0 w' → wpList Try.prog ops Q rest (a.put o.dst v') w') : wpList Try.prog ops Q (o :: rest) a (W0.alloc (.cells #[.int .i64 c0, .int .i64 c1, .int .i64 c2] 40)) := by
  subst hH
  refine wpList_plain hgd fun K' hK' => ?_
  obtain ⟨v', w', hr, ho', hb⟩ := append_op_run o.type hown hB c0 c1 c2 p h0 h1 h2 h6
  unfold Oper.wp
  rw [append_execO s x ho hs hx hr]
  exact hK' _ _ (h v' w' ho' hb)
theorem store_execO {o : Oper} {a : Act} {X : World} (x y : Operand) (ho : o.op = .store 40 x y) (H : Nat) (hH : X.heap.size = H) (c0 c1 c2 d0 d1 d2 : Int)
    (hx : a.eval x = .pointer (some ⟨H, 0, none⟩)) (hy : a.eval y = .agg #[.int .i64 c0, .int .i64 c1, .int .i64 c2]) :
    (execOp a.eval o).run Try.prog (X.alloc (.cells #[.int .i64 d0, .int .i64 d1, .int .i64 d2] 40)) = .ok .skip (X.alloc (.cells #[.int .i64 c0, .int .i64 c1, .int .i64 c2] 40)) := by
  subst hH
  unfold execOp
  simp only [ho, hx, hy, Instr.storeAt, Instr.sureAddr, Sem.run_bind, Sem.run_pure, Result.andThen_ok, run_storeVar_row (P := Try.prog) (X.alloc (.cells #[.int .i64 d0, .int .i64 d1, .int .i64 d2] 40)) X.heap.size 40 40 #[.int .i64 d0, .int .i64 d1, .int .i64 d2] #[.int .i64 c0, .int .i64 c1, .int .i64 c2] (heap_alloc_new _ _) (by kernel_rfl) rfl (by simp [Value.oneCell'])]
  rw [World.setRow_alloc_new]
/-- The worlds of an op laid by itself: exactly these. -/
def PaW (w1 w2 w3 : World) (L : Nat → Bool) (W : World) : Prop := W = bif L 23 then w3 else bif L 22 then w2 else w1
theorem PaW.cells {w1 w2 w3 : World} {L : Nat → Bool} {W : World} {g o : Nat} {p : Tq3} (h : PaW w1 w2 w3 L W) (h23 : L 23 = false) (c1 : PbCells g o p w1) (c2 : PbCells g o p w2) : PbCells g o p W := by
  unfold PaW at h
  rw [h23] at h
  cases hh : L 22 with
  | false => rw [hh] at h; subst h; exact c1
  | true => rw [hh] at h; subst h; exact c2
theorem PbCells.below {w w' : World} {g o : Nat} {p : Tq3} (h : PbCells g o p w) (hb : Below w.heap.size w w') (hg : g < w.heap.size) : PbCells g o p w' :=
  ⟨(hb.cell (p := ⟨g, _, none⟩) hg).trans h.1, (hb.cell (p := ⟨g, _, none⟩) hg).trans h.2.1, (hb.cell (p := ⟨g, _, none⟩) hg).trans h.2.2⟩

end Go.Proofs.Ytjfinnjmcnjciaa
