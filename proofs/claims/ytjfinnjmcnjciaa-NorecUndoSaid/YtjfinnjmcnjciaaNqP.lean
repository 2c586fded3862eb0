/-
  An attempt with values that is alone: where it stands, its steps, in plain words, and what the words are then.
-/
import Derived.Test.YtjfinnjmcnjciaaNrU
namespace Go.Proofs.Ytjfinnjmcnjciaa
open Go.RowKit

theorem va_in {s : MS} {q : Int} (h : s.has q) : s.vAt q = s.zs.getD q.toNat 0 := if_pos h
theorem va_out {s : MS} {q : Int} (h : ¬ s.has q) : s.vAt q = 0 := if_neg h
theorem has_len {s s' : MS} (h : s'.zs.length = s.zs.length) (q : Int) : s'.has q ↔ s.has q := by unfold MS.has; rw [h]
theorem va_same {s s' : MS} (h : s'.zs = s.zs) (q : Int) : s'.vAt q = s.vAt q := by
  by_cases hq : s.has q
  · rw [va_in hq, va_in ((has_len (by rw [h]) q).2 hq), h]
  · rw [va_out hq, va_out (fun hh => hq ((has_len (by rw [h]) q).1 hh))]
theorem vq_loaded (s : MS) (p q : Int) : (s.loaded p).vAt q = s.vAt q := by
  refine va_same ?_ q
  unfold MS.loaded
  split <;> rfl
theorem vq_put {s s' : MS} {p : Int} (h : s.has p) (v : Int) (hz : s'.zs = s.zs.set p.toNat v) (q : Int) : s'.vAt q = if q = p then v else s.vAt q := by
  have hl : s'.zs.length = s.zs.length := by rw [hz, List.length_set]
  obtain ⟨h0, h1⟩ := h
  by_cases hq : q = p
  · subst hq
    rw [va_in ((has_len hl q).2 ⟨h0, h1⟩), if_pos rfl, hz, List.getD_eq_getElem?_getD, List.getElem?_set_self (by omega)]
    rfl
  · rw [if_neg hq]
    by_cases hh : s.has q
    · have h2 := hh.1
      rw [va_in hh, va_in ((has_len hl q).2 hh), hz, List.getD_eq_getElem?_getD, List.getD_eq_getElem?_getD, List.getElem?_set_ne (by omega)]
    · rw [va_out hh, va_out (fun h => hh ((has_len hl q).1 h))]
theorem vq_stored {s : MS} {p : Int} (h : s.has p) (v q : Int) : (s.stored p v).vAt q = if q = p then v else s.vAt q :=
  vq_put h v (by unfold MS.stored; rw [if_pos h]; rfl) q
theorem vq_swap {s : MS} {p : Int} (h : s.has p) (o v q : Int) : (s.swapped p o v).vAt q = if s.vAt p = o ∧ q = p then v else s.vAt q := by
  by_cases ho : s.vAt p = o
  · have ho' := ho
    rw [va_in h] at ho'
    rw [vq_put (s' := s.swapped p o v) h v (by unfold MS.swapped; rw [if_pos h, if_pos ho']; rfl) q]
    by_cases hq : q = p
    · rw [if_pos hq, if_pos ⟨ho, hq⟩]
    · rw [if_neg hq, if_neg (fun h => hq h.2)]
  · have ho' := ho
    rw [va_in h] at ho'
    rw [if_neg (fun h => ho h.1)]
    exact va_same (by unfold MS.swapped; rw [if_pos h, if_neg ho']; rfl) q


/-! ### The words -/
structure Mem0 (s : MS) (c wv : Int) (dt : Nat → Int) (ph : Int) : Prop where
  len : s.zs.length = 34
  seq : s.vAt 1 = c
  str : ∀ k : Nat, k < 3 → s.vAt (2 + (k : Int)) = 0
  dat : ∀ d : Nat, d < 4 → s.vAt (26 + 2 * (d : Int)) = dt d
  ph : s.vAt 13 = ph
  wd : s.vAt 9 = wv
section
variable {s s' : MS} {c wv ph : Int} {dt : Nat → Int}
theorem Mem0.has (h : Mem0 s c wv dt ph) {p : Int} (h0 : 0 ≤ p) (h1 : p < 34) : s.has p := ⟨h0, by rw [h.len]; exact h1⟩
theorem Mem0.load (h : Mem0 s c wv dt ph) (p : Int) : Mem0 (s.loaded p) c wv dt ph :=
  ⟨(len_loaded _ _).trans h.len, by rw [vq_loaded]; exact h.seq, fun k hk => by rw [vq_loaded]; exact h.str k hk, fun d hd' => by rw [vq_loaded]; exact h.dat d hd', by rw [vq_loaded]; exact h.ph, by rw [vq_loaded]; exact h.wd⟩
theorem Mem0.phase (h : Mem0 s c wv dt ph) (v : Int) : Mem0 (s.stored 13 v) c wv dt v := by
  have hh : s.has 13 := h.has (by decide) (by decide)
  refine ⟨(len_stored _ _ _).trans h.len, ?_, fun k hk => ?_, fun d hd' => ?_, ?_, ?_⟩
  · rw [vq_stored hh, if_neg (by decide)]; exact h.seq
  · rw [vq_stored hh, if_neg (by omega)]; exact h.str k hk
  · rw [vq_stored hh, if_neg (by omega)]; exact h.dat d hd'
  · rw [vq_stored hh, if_pos rfl]
  · rw [vq_stored hh, if_neg (by decide)]; exact h.wd
theorem Mem0.word (h : Mem0 s c wv dt ph) (v : Int) : Mem0 (s.stored 9 v) c v dt ph := by
  have hh : s.has 9 := h.has (by decide) (by decide)
  refine ⟨(len_stored _ _ _).trans h.len, ?_, fun k hk => ?_, fun d hd' => ?_, ?_, ?_⟩
  · rw [vq_stored hh, if_neg (by decide)]; exact h.seq
  · rw [vq_stored hh, if_neg (by omega)]; exact h.str k hk
  · rw [vq_stored hh, if_neg (by omega)]; exact h.dat d hd'
  · rw [vq_stored hh, if_neg (by decide)]; exact h.ph
  · rw [vq_stored hh, if_pos rfl]
theorem Mem0.turn (h : Mem0 s c wv dt ph) (c' : Int) (hz : s'.zs.length = s.zs.length) (hv : ∀ q, s'.vAt q = if q = 1 then c' else s.vAt q) : Mem0 s' c' wv dt ph := by
  refine ⟨hz.trans h.len, by rw [hv, if_pos rfl], fun k hk => ?_, fun d hd' => ?_, ?_, ?_⟩
  · rw [hv, if_neg (by omega)]; exact h.str k hk
  · rw [hv, if_neg (by omega)]; exact h.dat d hd'
  · rw [hv, if_neg (by decide)]; exact h.ph
  · rw [hv, if_neg (by decide)]; exact h.wd
theorem Mem0.seqTo (h : Mem0 s c wv dt ph) (v : Int) : Mem0 (s.stored 1 v) v wv dt ph := h.turn v (len_stored _ _ _) (fun q => vq_stored (h.has (by decide) (by decide)) v q)
theorem Mem0.claim (h : Mem0 s 0 wv dt ph) (v : Int) : s.okAt 1 0 = true ∧ Mem0 (s.swapped 1 0 v) v wv dt ph := by
  have hh : s.has 1 := h.has (by decide) (by decide)
  have hz : s.zs.getD (1 : Int).toNat 0 = 0 := by have := h.seq; unfold MS.vAt at this; rw [if_pos hh] at this; exact this
  refine ⟨by unfold MS.okAt; exact decide_eq_true ⟨hh, hz⟩, h.turn v (len_swapped _ _ _ _) (fun q => ?_)⟩
  rw [vq_swap hh]
  by_cases e : q = 1
  · rw [if_pos ⟨h.seq, e⟩, if_pos e]
  · rw [if_neg (fun hn => e hn.2), if_neg e]
theorem Mem0.data (h : Mem0 s c wv dt ph) {p : Nat} (v : Int) (hp : p < 4) (dt' : Nat → Int) (h1 : ∀ d, d < 4 → dt' d = if d = p then v else dt d) : Mem0 (s.stored (dataP p) v) c wv dt' ph := by
  have hh : s.has (dataP p) := by unfold dataP; exact h.has (by omega) (by omega)
  have hv := vq_stored hh v
  unfold dataP at hv ⊢
  refine ⟨(len_stored _ _ _).trans h.len, ?_, fun j hj => ?_, fun d hd' => ?_, ?_, ?_⟩
  · rw [hv, if_neg (by omega)]; exact h.seq
  · rw [hv, if_neg (by omega)]; exact h.str j hj
  · rw [hv, h1 d hd']
    by_cases e : d = p
    · subst e; rw [if_pos rfl, if_pos rfl]
    · rw [if_neg (by omega), if_neg e]; exact h.dat d hd'
  · rw [hv, if_neg (by omega)]; exact h.ph
  · rw [hv, if_neg (by omega)]; exact h.wd
end
@[reducible] def zeroD : Nat → Int := fun _ => 0
def datW (ws : List Wd) : Nat → Int := fun d => valL ws (dataP d)

/-- Its writes: places of data, each once. -/
structure WsOk (ws : List Wd) : Prop where
  one : ∀ p ∈ ws, ∃ d : Nat, d < 4 ∧ p.1 = dataP d
  nd : (ws.map fun p => p.1).Nodup
  len : ws.length ≤ 8
/-- The watched places: none, or the lock's word. -/
def WtOk (wt : List Wd) : Prop := wt = [] ∨ wt = [(9, 0)]
theorem datW_snoc {ws : List Wd} (h : WsOk ws) {i d : Nat} {v : Int} (hd4 : d < 4) (hi : ws[i]? = some (dataP d, v)) : ∀ d', d' < 4 → datW (ws.take (i + 1)) d' = if d' = d then v else datW (ws.take i) d' := fun d' hd' => by
  have hn : hasL (ws.take i) (dataP d) = false := by
    obtain ⟨hl, he⟩ := List.getElem?_eq_some_iff.1 hi
    cases hx : hasL (ws.take i) (dataP d) with
    | false => rfl
    | true =>
      obtain ⟨p, hp, hpx⟩ := List.any_eq_true.1 hx
      have hnd : ((ws.take (i + 1)).map fun p => p.1).Nodup := h.nd.sublist ((List.take_sublist _ _).map _)
      rw [take_more hi, List.map_append] at hnd
      have := (List.nodup_append.1 hnd).2.2 p.1 (List.mem_map.2 ⟨p, hp, rfl⟩) (dataP d) (by simp)
      exact absurd (by simpa using hpx) this
  unfold datW
  rw [take_more hi, valL_snoc _ _ _ _ hn]
  by_cases e : d' = d
  · subst e; rw [if_pos rfl, if_pos rfl]
  · rw [if_neg (by unfold dataP; omega), if_neg e]

theorem WsOk.put {ws : List Wd} (h : WsOk ws) {d : Nat} (hd : d < 4) (v : Int) (hl : ws.length < 8) : WsOk (wputL 32 ws (dataP d) v) ∧ wputB 32 ws (dataP d) = true ∧ (wputL 32 ws (dataP d) v).length ≤ ws.length + 1 := by
  have h0 : 0 ≤ dataP d := by unfold dataP; omega
  cases hh : hasL ws (dataP d) with
  | true =>
    rw [wputL_there v h0 hh, wputB_there h0 hh]
    refine ⟨⟨fun p hp => ?_, by rw [updL_keys]; exact h.nd, by rw [updL_len]; exact h.len⟩, rfl, by rw [updL_len]; omega⟩
    have : p.1 ∈ (updL ws (dataP d) v).map fun p => p.1 := List.mem_map.2 ⟨p, hp, rfl⟩
    rw [updL_keys] at this
    obtain ⟨q, hq, e⟩ := List.mem_map.1 this
    rw [← e]
    exact h.one q hq
  | false =>
    rw [wputL_new v h0 hh (by omega), wputB_new h0 hh]
    refine ⟨⟨fun p hp => ?_, ?_, by rw [List.length_append, List.length_singleton]; omega⟩, by simp; omega, by rw [List.length_append]; simp⟩
    · rcases List.mem_append.1 hp with hp | hp
      · exact h.one p hp
      · simp at hp; subst hp; exact ⟨d, hd, rfl⟩
    · rw [List.map_append, List.nodup_append]
      refine ⟨h.nd, by simp, fun a ha b hb e => ?_⟩
      simp at hb
      subst hb
      obtain ⟨p, hp, e2⟩ := List.mem_map.1 ha
      have : hasL ws (dataP d) = true := List.any_eq_true.2 ⟨p, hp, by simp [e2, e]⟩
      rw [hh] at this
      cases this


/-! ### Where it stands -/
def PA (rs ws : List Wd) (k : Nat) (wt : List Wd) (su : Bool) (ca ma va : Int) (ps : List Int) (dn : Nat) (a g n : Int) (cl ph : Bool) : PT := ⟨mT, 1, 1000, 32, 32, rs, ws, k, wt, true, su, ca, 0, ma, va, ps, dn, a, g, n, cl, ph⟩
def PD (rs ws : List Wd) (k : Nat) (wt : List Wd) (ca va : Int) (ps : List Int) (a g n : Int) (cl ph : Bool) : PT := ⟨mT, 1, 1000, 32, 32, rs, ws, k, wt, false, false, ca, 0, 0, va, ps, 0, a, g, n, cl, ph⟩
/-- What is under way: nothing, a Begin, a Read, a Commit, what is undone. -/
def PT.job (x : PT) : Int := match x.parts.getLast? with
  | none => 0
  | some p => if p = 12 then 2 else if p = 16 then 4 else if p = 13 then 1 else 5
def mx (x : TX) : Nat := if x.job = 2 then x.parts.length else 10 * x.parts.length - x.dn
inductive SX (wt : List Wd) (wv : Int) (s : MS) : TX → Prop
  | idle (rs ws : List Wd) (k : Nat) (ca ma va : Int) (dn : Nat) (a g n : Int) (ok : WsOk ws) (rl : rs.length ≤ 8) (mem : Mem0 s 0 wv zeroD 0) : SX wt wv s (PA rs ws k wt false ca ma va [] dn a g n false false)
  | r0 (rs ws : List Wd) (k : Nat) (ca ma va : Int) (d : Nat) (g n : Int) (ok : WsOk ws) (lt : rs.length < 8) (hd : d < 4) (mem : Mem0 s 0 wv zeroD 0) : SX wt wv s (PA rs ws k wt false ca ma va [4, 5, 3, 12] 0 (dataP d) g n false false)
  | r1 (rs ws : List Wd) (k : Nat) (ca ma va : Int) (d : Nat) (g n : Int) (ok : WsOk ws) (lt : rs.length < 8) (hd : d < 4) (mem : Mem0 s 0 wv zeroD 0) : SX wt wv s (PA rs ws k wt false ca ma va [5, 3, 12] 0 (dataP d) g n false false)
  | r2 (rs ws : List Wd) (k : Nat) (ca ma va : Int) (d : Nat) (g n : Int) (ok : WsOk ws) (lt : rs.length < 8) (hd : d < 4) (hw : wt = [(9, 0)]) (mem : Mem0 s 0 wv zeroD 0) : SX wt wv s (PA rs ws k wt false ca ma va [3, 12] 0 (dataP d) g n false false)
  | c0 (rs : List Wd) (k : Nat) (ca ma va a g n : Int) (rl : rs.length ≤ 8) (mem : Mem0 s 0 wv zeroD 0) : SX wt wv s (PA rs [] k wt false ca ma va [6, 3, 15, 11, 16] 0 a g n false false)
  | c1 (rs : List Wd) (p : Wd) (ws : List Wd) (k : Nat) (ca ma va a g n : Int) (ok : WsOk (p :: ws)) (rl : rs.length ≤ 8) (mem : Mem0 s 0 wv zeroD 0) : SX wt wv s (PA rs (p :: ws) k wt false ca ma va [6, 14, 7, 3, 15, 8, 9, 11, 16] 0 a g n false false)
  | cl (rs : List Wd) (p : Wd) (ws : List Wd) (k : Nat) (ca ma va a g n : Int) (ok : WsOk (p :: ws)) (rl : rs.length ≤ 8) (mem : Mem0 s 0 wv zeroD 2) : SX wt wv s (PA rs (p :: ws) k wt false ca ma va [7, 3, 15, 8, 9, 11, 16] 0 a g n false true)
  | w0 (rs : List Wd) (k : Nat) (ca ma va a g n : Int) (rl : rs.length ≤ 8) (hw : wt = [(9, 0)]) (mem : Mem0 s 0 wv zeroD 2) : SX wt wv s (PA rs [] k wt false ca ma va [3, 15, 11, 16] 0 a g n false true)
  | w1 (rs : List Wd) (p : Wd) (ws : List Wd) (k : Nat) (ca va a g n : Int) (ok : WsOk (p :: ws)) (rl : rs.length ≤ 8) (hw : wt = [(9, 0)]) (mem : Mem0 s 1 wv zeroD 2) : SX wt wv s (PA rs (p :: ws) k wt false ca 2 va [3, 15, 8, 9, 11, 16] 0 a g n true true)
  | wr (rs ws : List Wd) (i k : Nat) (ca va a g n : Int) (ok : WsOk ws) (rl : rs.length ≤ 8) (lt : i < ws.length) (mem : Mem0 s 1 wv (datW (ws.take i)) 2) : SX wt wv s (PA rs ws k wt true ca 2 va [8, 9, 11, 16] i a g n true true)
  | rl (rs ws : List Wd) (k : Nat) (ca va a g n : Int) (ok : WsOk ws) (rl : rs.length ≤ 8) (ne : ws ≠ []) (mem : Mem0 s 1 wv (datW ws) 2) : SX wt wv s (PA rs ws k wt true ca 2 va [9, 11, 16] 0 a g n true true)
  | e0 (rs : List Wd) (k : Nat) (ca ma va a g n : Int) (rl : rs.length ≤ 8) (mem : Mem0 s 0 wv zeroD 2) : SX wt wv s (PA rs [] k wt true ca ma va [11, 16] 0 a g n false true)
  | e1 (rs ws : List Wd) (k : Nat) (ca va a g n : Int) (ok : WsOk ws) (rl : rs.length ≤ 8) (ne : ws ≠ []) (mem : Mem0 s 2 wv (datW ws) 2) : SX wt wv s (PA rs ws k wt true ca 2 va [11, 16] 0 a g n false true)
/-- It is being undone. -/
inductive UX (c wv : Int) (s : MS) : TX → Prop
  | a (rs ws : List Wd) (k : Nat) (wt : List Wd) (va a g n : Int) (mem : Mem0 s 1 wv zeroD 2) : UX c wv s (PD rs ws k wt c va [10, 11] a g n true true)
  | b (rs ws : List Wd) (k : Nat) (wt : List Wd) (va a g n : Int) (mem : Mem0 s 0 wv zeroD 2) : UX c wv s (PD rs ws k wt c va [11] a g n false true)
/-- It was undone. -/
structure DX (cause wv : Int) (s : MS) (x : TX) : Prop where
  alive : x.alive = false
  job : x.parts = []
  cause : x.cause = cause
  made : x.made = 0
  mem : Mem0 s 0 wv zeroD 0
/-- It is done. -/
structure EX (wv : Int) (s : MS) (x : TX) : Prop where
  alive : x.alive = false
  job : x.parts = []
  sure : x.sure = true
  ws : WsOk x.ws
  mem : x.ws = [] ∧ Mem0 s 0 wv zeroD 0 ∨ x.ws ≠ [] ∧ x.made = 2 ∧ x.stamp = 2 ∧ Mem0 s 2 wv (datW x.ws) 0

/-- The watched word turns. -/
theorem SX.turned {wt : List Wd} {wv : Int} {s : MS} {x : TX} (h : SX wt wv s x) (v : Int) : SX wt v (s.stored 9 v) x := by
  cases h with
  | idle rs ws k ca ma va dn a g n ok rl mem => exact .idle rs ws k ca ma va dn a g n ok rl (mem.word v)
  | r0 rs ws k ca ma va d g n ok lt hd mem => exact .r0 rs ws k ca ma va d g n ok lt hd (mem.word v)
  | r1 rs ws k ca ma va d g n ok lt hd mem => exact .r1 rs ws k ca ma va d g n ok lt hd (mem.word v)
  | r2 rs ws k ca ma va d g n ok lt hd hw mem => exact .r2 rs ws k ca ma va d g n ok lt hd hw (mem.word v)
  | c0 rs k ca ma va a g n rl mem => exact .c0 rs k ca ma va a g n rl (mem.word v)
  | c1 rs p ws k ca ma va a g n ok rl mem => exact .c1 rs p ws k ca ma va a g n ok rl (mem.word v)
  | cl rs p ws k ca ma va a g n ok rl mem => exact .cl rs p ws k ca ma va a g n ok rl (mem.word v)
  | w0 rs k ca ma va a g n rl hw mem => exact .w0 rs k ca ma va a g n rl hw (mem.word v)
  | w1 rs p ws k ca va a g n ok rl hw mem => exact .w1 rs p ws k ca va a g n ok rl hw (mem.word v)
  | wr rs ws i k ca va a g n ok rl lt mem => exact .wr rs ws i k ca va a g n ok rl lt (mem.word v)
  | rl rs ws k ca va a g n ok rl ne mem => exact .rl rs ws k ca va a g n ok rl ne (mem.word v)
  | e0 rs k ca ma va a g n rl mem => exact .e0 rs k ca ma va a g n rl (mem.word v)
  | e1 rs ws k ca va a g n ok rl ne mem => exact .e1 rs ws k ca va a g n ok rl ne (mem.word v)

theorem abort_ff (rs ws : List Wd) (k : Nat) (wt : List Wd) (ca ma va : Int) (ps : List Int) (dn : Nat) (a g n c : Int) : abortP (PA rs ws k wt false ca ma va ps dn a g n false false) c = (2, PD rs ws k wt c va [] a g n false false) := rfl
theorem abort_ft (rs ws : List Wd) (k : Nat) (wt : List Wd) (ca ma va : Int) (ps : List Int) (dn : Nat) (a g n c : Int) : abortP (PA rs ws k wt false ca ma va ps dn a g n false true) c = (0, PD rs ws k wt c va [11] a g n false true) := rfl
theorem abort_tt (rs ws : List Wd) (k : Nat) (wt : List Wd) (ca ma va : Int) (ps : List Int) (dn : Nat) (a g n c : Int) : abortP (PA rs ws k wt false ca ma va ps dn a g n true true) c = (0, PD rs ws k wt c va [10, 11] a g n true true) := rfl
/-- Aborted, by whatever cause: at once, or it is to be undone. -/
theorem SX.abort {wt : List Wd} {wv : Int} {s : MS} {x : TX} (h : SX wt wv s x) (sure : x.sure = false) (c : Int) : (abortP x c).1 = 2 ∧ DX c wv s (abortP x c).2 ∨ (abortP x c).1 = 0 ∧ UX c wv s (abortP x c).2 := by
  cases h with
  | idle rs ws k ca ma va dn a g n ok rl mem => exact .inl ⟨rfl, rfl, rfl, rfl, rfl, mem⟩
  | r0 rs ws k ca ma va d g n ok lt hd mem => exact .inl ⟨rfl, rfl, rfl, rfl, rfl, mem⟩
  | r1 rs ws k ca ma va d g n ok lt hd mem => exact .inl ⟨rfl, rfl, rfl, rfl, rfl, mem⟩
  | r2 rs ws k ca ma va d g n ok lt hd hw mem => exact .inl ⟨rfl, rfl, rfl, rfl, rfl, mem⟩
  | c0 rs k ca ma va a g n rl mem => exact .inl ⟨rfl, rfl, rfl, rfl, rfl, mem⟩
  | c1 rs p ws k ca ma va a g n ok rl mem => exact .inl ⟨rfl, rfl, rfl, rfl, rfl, mem⟩
  | cl rs p ws k ca ma va a g n ok rl mem => exact .inr ⟨rfl, .b _ _ _ _ _ _ _ _ mem⟩
  | w0 rs k ca ma va a g n rl hw mem => exact .inr ⟨rfl, .b _ _ _ _ _ _ _ _ mem⟩
  | w1 rs p ws k ca va a g n ok rl hw mem => exact .inr ⟨rfl, .a _ _ _ _ _ _ _ _ mem⟩
  | wr rs ws i k ca va a g n ok rl lt mem => cases sure
  | rl rs ws k ca va a g n ok rl ne mem => cases sure
  | e0 rs k ca ma va a g n rl mem => cases sure
  | e1 rs ws k ca va a g n ok rl ne mem => cases sure

/-! ### Its steps -/
theorem step_ok {s s' : MS} {y q : PT} {p : Int} {ps : List Int} (hp : y.parts = p :: ps) (h : accP s y p y.dn = (0, q, s')) : pStep s y = ((goP q.parts { q with dn := y.dn + 1 }).1, (goP q.parts { q with dn := y.dn + 1 }).2, s') := by
  unfold pStep
  rw [hp]
  show stepsP s y p = _
  unfold stepsP
  rw [h]
  rfl
theorem step_bad {s s' : MS} {y q : PT} {p c : Int} {ps : List Int} (hp : y.parts = p :: ps) (h : accP s y p y.dn = (c, q, s')) (hc : 0 < c) : pStep s y = ((abortP q c).1, (abortP q c).2, s') := by
  unfold pStep
  rw [hp]
  show stepsP s y p = _
  unfold stepsP
  rw [h]
  show (if c = 0 then _ else if c = -1 then _ else if c = -2 then _ else _) = _
  rw [if_neg (by omega), if_neg (by omega), if_neg (by omega)]
section
variable {s : MS} {y : PT} {i : Nat}
theorem un_ok {d : Wd} {c : Int} (h : s.vAt d.1 = d.2) : unlikeC s d c = 0 := if_neg (fun hn => hn h)
theorem un_bad {d : Wd} {c : Int} (h : s.vAt d.1 ≠ d.2) : unlikeC s d c = c := if_pos h
theorem ac5 (hq : y.seqP = 1) (h : s.vAt 1 = y.stamp) : accP s y 5 i = (0, y, s.loaded 1) := by
  show (unlikeC s (y.seqP, y.stamp) (-1), y, s.loaded y.seqP) = _
  rw [hq, un_ok (d := (1, y.stamp)) h]
theorem ac6 (hq : y.phaseP = 13) : accP s y 6 i = (0, { y with phased := true }, s.stored 13 2) := by
  show ((0 : Int), { y with phased := true }, s.stored y.phaseP 2) = _
  rw [hq]
theorem ac11 (hq : y.phaseP = 13) : accP s y 11 i = (0, { y with phased := false }, s.stored 13 0) := by
  show ((0 : Int), { y with phased := false }, s.stored y.phaseP 0) = _
  rw [hq]
theorem ac9 (hq : y.seqP = 1) : accP s y 9 i = (0, { y with claimed := false }, s.stored 1 y.made) := by
  show ((0 : Int), { y with claimed := false }, s.stored y.seqP y.made) = _
  rw [hq]
theorem ac10 (hq : y.seqP = 1) : accP s y 10 i = (0, { y with claimed := false }, s.stored 1 y.stamp) := by
  show ((0 : Int), { y with claimed := false }, s.stored y.seqP y.stamp) = _
  rw [hq]
theorem ac7 (hq : y.seqP = 1) (hs : y.stamp = 0) (h : s.okAt 1 0 = true) : accP s y 7 i = (0, { y with claimed := true, made := 2 }, s.swapped 1 0 1) := by
  have e1 : y.next = 2 := by unfold PT.next; rw [hs]; unfold wrap64; omega
  have e2 : wrap64 ((0 : Int) + 1) = 1 := by unfold wrap64; omega
  rw [acc7_yes (by rw [hq, hs]; exact h), hq, e1, hs, e2]
theorem ac3 (hw : y.wt.getD i (0, 0) = (9, 0)) (h : s.vAt 9 = 0) : accP s y 3 i = (0, y, s.loaded 9) := by
  show (unlikeC s (y.wt.getD i (0, 0)) 3, y, s.loaded (y.wt.getD i (0, 0)).1) = _
  rw [hw, un_ok (d := (9, 0)) h]
theorem ac3b (hw : y.wt.getD i (0, 0) = (9, 0)) (h : s.vAt 9 ≠ 0) : accP s y 3 i = (3, y, s.loaded 9) := by
  show (unlikeC s (y.wt.getD i (0, 0)) 3, y, s.loaded (y.wt.getD i (0, 0)).1) = _
  rw [hw, un_bad (d := (9, 0)) h]
end

/-- What a step comes to. -/
inductive StepX (wt : List Wd) (wv : Int) (x : TX) : Int × TX × MS → Prop
  | on (x' : TX) (s' : MS) (h : SX wt wv s' x') (job : x'.job = x.job) (less : mx x' < mx x) (ws : x'.ws = x.ws) (rs : x'.rs = x.rs) : StepX wt wv x (0, x', s')
  | undo (x' : TX) (s' : MS) (h : UX 3 wv s' x') (hw : wv ≠ 0) : StepX wt wv x (0, x', s')
  | dead (x' : TX) (s' : MS) (h : DX 3 wv s' x') (hw : wv ≠ 0) : StepX wt wv x (2, x', s')
  | read (x' : TX) (s' : MS) (h : SX wt wv s' x') (job : x.job = 2) (job' : x'.job = 0) (sure : x'.sure = false) (ws : x'.ws = x.ws) (rs : x'.rs.length ≤ x.rs.length + 1) : StepX wt wv x (1, x', s')
  | done (x' : TX) (s' : MS) (h : EX wv s' x') (job : x.job = 4) (ws : x'.ws = x.ws) : StepX wt wv x (1, x', s')
theorem put_len {rs : List Wd} (k v : Int) (h : rs.length < 8) : (putL 32 rs k v).length ≤ rs.length + 1 := by
  cases hh : hasL rs k with
  | true => rw [putL_there _ hh]; omega
  | false => rw [putL_new _ hh (by omega), List.length_append]; simp

theorem seq_PA (rs ws : List Wd) (k : Nat) (wt : List Wd) (su : Bool) (ca ma va : Int) (ps : List Int) (dn : Nat) (a g n : Int) (cl ph : Bool) : (PA rs ws k wt su ca ma va ps dn a g n cl ph).seqP = 1 := mT_seq
theorem ph_PA (rs ws : List Wd) (k : Nat) (wt : List Wd) (su : Bool) (ca ma va : Int) (ps : List Int) (dn : Nat) (a g n : Int) (cl ph : Bool) : (PA rs ws k wt su ca ma va ps dn a g n cl ph).phaseP = 13 := mT_phase (t := 1) (by decide)
/-- **A step of an attempt that is alone.** -/
theorem SX.step {wt : List Wd} {wv : Int} {s : MS} {x : TX} (hw : WtOk wt) (h : SX wt wv s x) (hj : x.job ≠ 0) : StepX wt wv x (txStep s x) := by
  cases h with
  | idle rs ws k ca ma va dn a g n ok rl mem => exact absurd rfl hj
  | r0 rs ws k ca ma va d g n ok lt hd mem =>
    have e := step_ok (s := s) (y := PA rs ws k wt false ca ma va [4, 5, 3, 12] 0 (dataP d) g n false false) (p := 4) rfl (q := PA rs ws k wt false ca ma va [4, 5, 3, 12] 0 (dataP d) (s.vAt (dataP d)) n false false) (s' := s.loaded (dataP d)) rfl
    rw [show txStep s _ = _ from e]
    exact .on _ _ (.r1 rs ws k ca ma va d (s.vAt (dataP d)) n ok lt hd (mem.load _)) rfl (show 3 < 4 by decide) rfl rfl
  | r1 rs ws k ca ma va d g n ok lt hd mem =>
    have e := step_ok (s := s) (p := 5) rfl (ac5 (i := 0) (seq_PA rs ws k wt false ca ma va [5, 3, 12] 0 (dataP d) g n false false) mem.seq)
    rw [show txStep s _ = _ from e]
    rcases hw with rfl | rfl
    · exact .read _ _ (.idle (putL 32 rs (dataP d) g) ws k ca ma g 0 (dataP d) g n ok (by have := put_len (dataP d) g lt; omega) (mem.load _)) rfl rfl rfl rfl (put_len (dataP d) g lt)
    · exact .on _ _ (.r2 rs ws k ca ma va d g n ok lt hd rfl (mem.load _)) rfl (show 2 < 3 by decide) rfl rfl
  | r2 rs ws k ca ma va d g n ok lt hd hwt mem =>
    subst hwt
    by_cases hv : wv = 0
    · have e := step_ok (s := s) (y := PA rs ws k [(9, 0)] false ca ma va [3, 12] 0 (dataP d) g n false false) (p := 3) rfl (ac3 (i := 0) rfl (mem.wd.trans hv))
      rw [show txStep s _ = _ from e]
      exact .read _ _ (.idle (putL 32 rs (dataP d) g) ws k ca ma g 0 (dataP d) g n ok (by have := put_len (dataP d) g lt; omega) (mem.load _)) rfl rfl rfl rfl (put_len (dataP d) g lt)
    · have e := step_bad (s := s) (y := PA rs ws k [(9, 0)] false ca ma va [3, 12] 0 (dataP d) g n false false) (p := 3) rfl (ac3b (i := 0) rfl (by rw [mem.wd]; exact hv)) (by decide)
      rw [show txStep s _ = _ from e]
      exact .dead _ _ ⟨rfl, rfl, rfl, rfl, mem.load _⟩ hv
  | c0 rs k ca ma va a g n rl mem =>
    have e := step_ok (s := s) (p := 6) rfl (ac6 (i := 0) (ph_PA rs [] k wt false ca ma va [6, 3, 15, 11, 16] 0 a g n false false))
    rw [show txStep s _ = _ from e]
    rcases hw with rfl | rfl
    · exact .on _ _ (.e0 rs k ca ma va a g n rl (mem.phase 2)) rfl (show 20 < 50 by decide) rfl rfl
    · exact .on _ _ (.w0 rs k ca ma va a g n rl rfl (mem.phase 2)) rfl (show 40 < 50 by decide) rfl rfl
  | c1 rs p ws k ca ma va a g n ok rl mem =>
    have e := step_ok (s := s) (p := 6) rfl (ac6 (i := 0) (ph_PA rs (p :: ws) k wt false ca ma va [6, 14, 7, 3, 15, 8, 9, 11, 16] 0 a g n false false))
    have e2 : goP [6, 14, 7, 3, 15, 8, 9, 11, 16] { PA rs (p :: ws) k wt false ca ma va [6, 14, 7, 3, 15, 8, 9, 11, 16] 0 a g n false true with dn := 1 } = (0, PA rs (p :: ws) k wt false ca ma va [7, 3, 15, 8, 9, 11, 16] 0 a g n false true) := by
      rw [goP]
      refine (if_neg Bool.false_ne_true).trans ((if_neg (fun h => h rfl)).trans ?_)
      rw [goP]
      refine (if_neg Bool.false_ne_true).trans ((if_neg (fun h => h (if_neg (show ¬ ((14 : Int) = 14 ∧ (1000 : Int) < wrap64 (0 + 2)) by unfold wrap64; omega)))).trans ?_)
      · show goP [7, 3, 15, 8, 9, 11, 16] _ = _
        rw [goP]
        exact if_pos rfl
    have e := (show txStep s (PA rs (p :: ws) k wt false ca ma va [6, 14, 7, 3, 15, 8, 9, 11, 16] 0 a g n false false) = ((goP [6, 14, 7, 3, 15, 8, 9, 11, 16] { PA rs (p :: ws) k wt false ca ma va [6, 14, 7, 3, 15, 8, 9, 11, 16] 0 a g n false true with dn := 1 }).1, (goP [6, 14, 7, 3, 15, 8, 9, 11, 16] { PA rs (p :: ws) k wt false ca ma va [6, 14, 7, 3, 15, 8, 9, 11, 16] 0 a g n false true with dn := 1 }).2, s.stored 13 2) from e)
    rw [e2] at e
    rw [e]
    exact .on _ _ (.cl rs p ws k ca ma va a g n ok rl (mem.phase 2)) rfl (show 70 < 90 by decide) rfl rfl
  | cl rs p ws k ca ma va a g n ok rl mem =>
    obtain ⟨h1, h2⟩ := mem.claim 1
    have e := step_ok (s := s) (p := 7) rfl (ac7 (i := 0) (seq_PA rs (p :: ws) k wt false ca ma va [7, 3, 15, 8, 9, 11, 16] 0 a g n false true) rfl h1)
    rw [show txStep s _ = _ from e]
    rcases hw with rfl | rfl
    · exact .on _ _ (.wr rs (p :: ws) 0 k ca va a g n ok rl (Nat.succ_pos _) h2) rfl (show 40 < 70 by decide) rfl rfl
    · exact .on _ _ (.w1 rs p ws k ca va a g n ok rl rfl h2) rfl (show 60 < 70 by decide) rfl rfl
  | w0 rs k ca ma va a g n rl hwt mem =>
    subst hwt
    by_cases hv : wv = 0
    · have e := step_ok (s := s) (y := PA rs [] k [(9, 0)] false ca ma va [3, 15, 11, 16] 0 a g n false true) (p := 3) rfl (ac3 (i := 0) rfl (mem.wd.trans hv))
      rw [show txStep s _ = _ from e]
      exact .on _ _ (.e0 rs k ca ma va a g n rl (mem.load _)) rfl (show 20 < 40 by decide) rfl rfl
    · have e := step_bad (s := s) (y := PA rs [] k [(9, 0)] false ca ma va [3, 15, 11, 16] 0 a g n false true) (p := 3) rfl (ac3b (i := 0) rfl (by rw [mem.wd]; exact hv)) (by decide)
      rw [show txStep s _ = _ from e]
      exact .undo _ _ (.b _ _ _ _ _ _ _ _ (mem.load _)) hv
  | w1 rs p ws k ca va a g n ok rl hwt mem =>
    subst hwt
    by_cases hv : wv = 0
    · have e := step_ok (s := s) (y := PA rs (p :: ws) k [(9, 0)] false ca 2 va [3, 15, 8, 9, 11, 16] 0 a g n true true) (p := 3) rfl (ac3 (i := 0) rfl (mem.wd.trans hv))
      rw [show txStep s _ = _ from e]
      exact .on _ _ (.wr rs (p :: ws) 0 k ca va a g n ok rl (Nat.succ_pos _) (mem.load _)) rfl (show 40 < 60 by decide) rfl rfl
    · have e := step_bad (s := s) (y := PA rs (p :: ws) k [(9, 0)] false ca 2 va [3, 15, 8, 9, 11, 16] 0 a g n true true) (p := 3) rfl (ac3b (i := 0) rfl (by rw [mem.wd]; exact hv)) (by decide)
      rw [show txStep s _ = _ from e]
      exact .undo _ _ (.a _ _ _ _ _ _ _ _ (mem.load _)) hv
  | wr rs ws i k ca va a g n ok rl lt mem =>
    obtain ⟨⟨k1, v⟩, hp⟩ : ∃ p, ws[i]? = some p := ⟨_, List.getElem?_eq_getElem lt⟩
    obtain ⟨d, hd, hk⟩ := ok.one _ (List.mem_of_getElem? hp)
    have hk : k1 = dataP d := hk
    subst hk
    have hg : ws.getD i (0, 0) = (dataP d, v) := by rw [List.getD_eq_getElem?_getD, hp]; rfl
    have e := step_ok (s := s) (y := PA rs ws k wt true ca 2 va [8, 9, 11, 16] i a g n true true) (p := 8) rfl (q := PA rs ws k wt true ca 2 va [8, 9, 11, 16] i a g n true true) (s' := s.stored (dataP d) v) (by
      show ((0 : Int), _, s.stored (ws.getD i (0, 0)).1 (ws.getD i (0, 0)).2) = _
      rw [hg])
    rw [show txStep s _ = _ from e]
    have hm := mem.data (p := d) v hd (datW (ws.take (i + 1))) (datW_snoc ok hd hp)
    have i8 := ok.len
    by_cases hl : i + 1 < ws.length
    · have e2 : goP [8, 9, 11, 16] (PA rs ws k wt true ca 2 va [8, 9, 11, 16] (i + 1) a g n true true) = (0, PA rs ws k wt true ca 2 va [8, 9, 11, 16] (i + 1) a g n true true) := by
        rw [goP]
        exact if_pos (decide_eq_true hl)
      rw [show goP (PA rs ws k wt true ca 2 va [8, 9, 11, 16] i a g n true true).parts { PA rs ws k wt true ca 2 va [8, 9, 11, 16] i a g n true true with dn := (PA rs ws k wt true ca 2 va [8, 9, 11, 16] i a g n true true).dn + 1 } = _ from e2]
      exact .on _ _ (.wr rs ws (i + 1) k ca va a g n ok rl hl hm) rfl (show 40 - (i + 1) < 40 - i by omega) rfl rfl
    · have e2 : goP [8, 9, 11, 16] (PA rs ws k wt true ca 2 va [8, 9, 11, 16] (i + 1) a g n true true) = (0, PA rs ws k wt true ca 2 va [9, 11, 16] 0 a g n true true) := by
        rw [goP]
        refine (if_neg (by show ¬ decide (i + 1 < ws.length) = true; rw [decide_eq_false hl]; decide)).trans ?_
        rfl
      rw [show goP (PA rs ws k wt true ca 2 va [8, 9, 11, 16] i a g n true true).parts { PA rs ws k wt true ca 2 va [8, 9, 11, 16] i a g n true true with dn := (PA rs ws k wt true ca 2 va [8, 9, 11, 16] i a g n true true).dn + 1 } = _ from e2]
      rw [List.take_of_length_le (by omega)] at hm
      exact .on _ _ (.rl rs ws k ca va a g n ok rl (by intro hn; rw [hn] at lt; exact absurd lt (Nat.not_lt_zero _)) hm) rfl (show 30 < 40 - i by omega) rfl rfl
  | rl rs ws k ca va a g n ok rl ne mem =>
    have e := step_ok (s := s) (p := 9) rfl (ac9 (i := 0) (seq_PA rs ws k wt true ca 2 va [9, 11, 16] 0 a g n true true))
    rw [show txStep s _ = _ from e]
    exact .on _ _ (.e1 rs ws k ca va a g n ok rl ne (mem.seqTo 2)) rfl (show 20 < 30 by decide) rfl rfl
  | e0 rs k ca ma va a g n rl mem =>
    have e := step_ok (s := s) (p := 11) rfl (ac11 (i := 0) (ph_PA rs [] k wt true ca ma va [11, 16] 0 a g n false true))
    rw [show txStep s _ = _ from e]
    exact .done _ _ ⟨rfl, rfl, rfl, ⟨(fun _ h => by cases h), List.nodup_nil, Nat.zero_le _⟩, .inl ⟨rfl, mem.phase 0⟩⟩ rfl rfl
  | e1 rs ws k ca va a g n ok rl ne mem =>
    have e := step_ok (s := s) (p := 11) rfl (ac11 (i := 0) (ph_PA rs ws k wt true ca 2 va [11, 16] 0 a g n false true))
    rw [show txStep s _ = _ from e]
    refine .done _ _ ⟨rfl, rfl, rfl, ok, .inr ⟨ne, rfl, ?_, mem.phase 0⟩⟩ rfl rfl
    show (if ws = [] then _ else (2 : Int)) = 2
    exact if_neg ne

/-- One access of undoing. -/
theorem UX.step {c wv : Int} {s : MS} {x : TX} (h : UX c wv s x) : (∃ x' s', txStep s x = (0, x', s') ∧ UX c wv s' x' ∧ x'.parts.length < x.parts.length) ∨ ∃ x' s', txStep s x = (2, x', s') ∧ DX c wv s' x' := by
  cases h with
  | a rs ws k wt va a g n mem =>
    have e := step_ok (s := s) (y := PD rs ws k wt c va [10, 11] a g n true true) (p := 10) rfl (ac10 (i := 0) mT_seq)
    exact .inl ⟨_, _, e, .b rs ws k wt va a g n (mem.seqTo 0), (show 1 < 2 by decide)⟩
  | b rs ws k wt va a g n mem =>
    have e := step_ok (s := s) (y := PD rs ws k wt c va [11] a g n false true) (p := 11) rfl (ac11 (i := 0) (mT_phase (t := 1) (by decide)))
    exact .inr ⟨_, _, e, rfl, rfl, rfl, rfl, mem.phase 0⟩

end Go.Proofs.Ytjfinnjmcnjciaa
