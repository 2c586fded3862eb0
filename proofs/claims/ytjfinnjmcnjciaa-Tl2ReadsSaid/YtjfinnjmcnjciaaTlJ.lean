/-
  An attempt that is alone: its steps, in plain words, and what the words are then. An attempt that is alone: each of its steps. An attempt that is alone, by its plan: each pick; how far it is from its end. An attempt that is alone, by its plan: any pick; its beginning; a watched place; a kill.
-/
import Derived.Test.YtjfinnjmcnjciaaTlH
namespace Go.Proofs.Ytjfinnjmcnjciaa
open Go.RowKit

/-! ### The words -/
structure Mem0 (s : MS) (c wv : Int) (hd fr : List Int) (dt : Nat → Int) (ph : Int) : Prop where
  len : s.zs.length = 34
  clk : s.vAt 0 = c
  seq : s.vAt 1 = 0
  str : ∀ k : Nat, k < 3 → s.vAt (2 + (k : Int)) = if (k : Int) ∈ hd then 2 else if (k : Int) ∈ fr then 16 else 0
  dat : ∀ d : Nat, d < 4 → s.vAt (26 + 2 * (d : Int)) = dt d
  ph : s.vAt 13 = ph
  wd : s.vAt 9 = wv
section
variable {s s' : MS} {c wv ph : Int} {hd fr : List Int} {dt : Nat → Int}
theorem Mem0.has (h : Mem0 s c wv hd fr dt ph) {p : Int} (h0 : 0 ≤ p) (h1 : p < 34) : s.has p := ⟨h0, by rw [h.len]; exact h1⟩
theorem Mem0.same (h : Mem0 s c wv hd fr dt ph) (hz : s'.zs.length = s.zs.length) (hv : ∀ q, s'.vAt q = s.vAt q) : Mem0 s' c wv hd fr dt ph :=
  ⟨hz.trans h.len, by rw [hv]; exact h.clk, by rw [hv]; exact h.seq, fun k hk => by rw [hv]; exact h.str k hk, fun d hd' => by rw [hv]; exact h.dat d hd', by rw [hv]; exact h.ph, by rw [hv]; exact h.wd⟩
theorem Mem0.load (h : Mem0 s c wv hd fr dt ph) (p : Int) : Mem0 (s.loaded p) c wv hd fr dt ph := h.same (len_loaded _ _) (fun q => vq_loaded _ _ _)
theorem Mem0.phase (h : Mem0 s c wv hd fr dt ph) (v : Int) : Mem0 (s.stored 13 v) c wv hd fr dt v := by
  have hh : s.has 13 := h.has (by decide) (by decide)
  refine ⟨(len_stored _ _ _).trans h.len, ?_, ?_, fun k hk => ?_, fun d hd' => ?_, ?_, ?_⟩
  · rw [vq_stored hh, if_neg (by decide)]; exact h.clk
  · rw [vq_stored hh, if_neg (by decide)]; exact h.seq
  · rw [vq_stored hh, if_neg (by omega)]; exact h.str k hk
  · rw [vq_stored hh, if_neg (by omega)]; exact h.dat d hd'
  · rw [vq_stored hh, if_pos rfl]
  · rw [vq_stored hh, if_neg (by decide)]; exact h.wd
theorem Mem0.word (h : Mem0 s c wv hd fr dt ph) (v : Int) : Mem0 (s.stored 9 v) c v hd fr dt ph := by
  have hh : s.has 9 := h.has (by decide) (by decide)
  refine ⟨(len_stored _ _ _).trans h.len, ?_, ?_, fun k hk => ?_, fun d hd' => ?_, ?_, ?_⟩
  · rw [vq_stored hh, if_neg (by decide)]; exact h.clk
  · rw [vq_stored hh, if_neg (by decide)]; exact h.seq
  · rw [vq_stored hh, if_neg (by omega)]; exact h.str k hk
  · rw [vq_stored hh, if_neg (by omega)]; exact h.dat d hd'
  · rw [vq_stored hh, if_neg (by decide)]; exact h.ph
  · rw [vq_stored hh, if_pos rfl]
theorem Mem0.clock (h : Mem0 s c wv hd fr dt ph) (c' : Int) (hz : s'.zs.length = s.zs.length) (hv : ∀ q, s'.vAt q = if q = 0 then c' else s.vAt q) : Mem0 s' c' wv hd fr dt ph := by
  refine ⟨hz.trans h.len, by rw [hv, if_pos rfl], ?_, fun k hk => ?_, fun d hd' => ?_, ?_, ?_⟩
  · rw [hv, if_neg (by decide)]; exact h.seq
  · rw [hv, if_neg (by omega)]; exact h.str k hk
  · rw [hv, if_neg (by omega)]; exact h.dat d hd'
  · rw [hv, if_neg (by decide)]; exact h.ph
  · rw [hv, if_neg (by decide)]; exact h.wd
theorem Mem0.stripe (h : Mem0 s c wv hd fr dt ph) {k : Nat} (v : Int) (hd' fr' : List Int) (hz : s'.zs.length = s.zs.length) (hv : ∀ q, s'.vAt q = if q = 2 + (k : Int) then v else s.vAt q) (hk : k < 3)
    (h1 : v = if (k : Int) ∈ hd' then 2 else if (k : Int) ∈ fr' then 16 else 0) (h2 : ∀ j : Nat, j ≠ k → ((j : Int) ∈ hd' ↔ (j : Int) ∈ hd)) (h3 : ∀ j : Nat, j ≠ k → ((j : Int) ∈ fr' ↔ (j : Int) ∈ fr)) : Mem0 s' c wv hd' fr' dt ph := by
  refine ⟨hz.trans h.len, ?_, ?_, fun j hj => ?_, fun d hd' => ?_, ?_, ?_⟩
  · rw [hv, if_neg (by omega)]; exact h.clk
  · rw [hv, if_neg (by omega)]; exact h.seq
  · by_cases e : j = k
    · subst e; rw [hv, if_pos rfl]; exact h1
    · rw [hv, if_neg (by omega), h.str j hj]
      simp only [h2 j e, h3 j e]
  · rw [hv, if_neg (by omega)]; exact h.dat d hd'
  · rw [hv, if_neg (by omega)]; exact h.ph
  · rw [hv, if_neg (by omega)]; exact h.wd
theorem Mem0.data (h : Mem0 s c wv hd fr dt ph) {p : Nat} (v : Int) (hp : p < 4) (dt' : Nat → Int) (h1 : ∀ d, d < 4 → dt' d = if d = p then v else dt d) : Mem0 (s.stored (dataP p) v) c wv hd fr dt' ph := by
  have hh : s.has (dataP p) := by unfold dataP; exact h.has (by omega) (by omega)
  have hv := vq_stored hh v
  unfold dataP at hv ⊢
  refine ⟨(len_stored _ _ _).trans h.len, ?_, ?_, fun j hj => ?_, fun d hd' => ?_, ?_, ?_⟩
  · rw [hv, if_neg (by omega)]; exact h.clk
  · rw [hv, if_neg (by omega)]; exact h.seq
  · rw [hv, if_neg (by omega)]; exact h.str j hj
  · rw [hv, h1 d hd']
    by_cases e : d = p
    · subst e; rw [if_pos rfl, if_pos rfl]
    · rw [if_neg (by omega), if_neg e]; exact h.dat d hd'
  · rw [hv, if_neg (by omega)]; exact h.ph
  · rw [hv, if_neg (by omega)]; exact h.wd
end
@[reducible] def zeroD : Nat → Int := fun _ => 0
def datW (ws : List Wd) : Nat → Int := fun d => valL ws (dataP d)

/-! ### Where it stands -/
/-- Its writes: places of data, each once. -/
structure WsOk (ws : List Wd) : Prop where
  one : ∀ p ∈ ws, ∃ d : Nat, d < 4 ∧ p.1 = dataP d
  nd : (ws.map fun p => p.1).Nodup
  len : ws.length ≤ 8
/-- The watched places: none, or the lock's word. -/
def WtOk (wt : List Wd) : Prop := wt = [] ∨ wt = [(9, 0)]
structure XB (ck : Int) (wt : List Wd) (x : TX) : Prop where
  m : x.m = mT
  th : x.th = 1
  ckk : x.ck = ck
  top : x.top = 1000
  mr : x.mr = 32
  mw : x.mw = 32
  wt : x.wt = wt
  alive : x.alive = true
  stamp : x.stamp = 0
  ws : WsOk x.ws
  rs : x.rs.length ≤ 8 ∧ ∀ p ∈ x.rs, ∃ k : Nat, k < 3 ∧ p.1 = (k : Int)
structure CX (ck : Int) (wt : List Wd) (x : TX) : Prop where
  b : XB ck wt x
  job : x.job = 4
  phased : x.phased = true
  rows : RowsOk x.rows
  old : ∀ j, j < x.old.length → x.old[j]? = some 0
  le : x.old.length ≤ x.rows.length
  ne : x.ws ≠ [] → x.rows ≠ []
inductive SX (ck : Int) (wt : List Wd) (wv : Int) (s : MS) (x : TX) : Prop
  | idle (b : XB ck wt x) (sure : x.sure = false) (phased : x.phased = false) (job : x.job = 0) (old : x.old = []) (rw0 : x.rows = []) (mem : Mem0 s 0 wv [] [] zeroD 0)
  | rd (d : Nat) (b : XB ck wt x) (sure : x.sure = false) (phased : x.phased = false) (job : x.job = 2) (old : x.old = []) (rw0 : x.rows = []) (mem : Mem0 s 0 wv [] [] zeroD 0) (hd : d < 4) (hat : x.at_ = dataP d) (xi : x.i = 0) (lt : x.rs.length < 8)
      (st : x.st = 0 ∨ x.st = 1 ∧ x.pre = 0 ∨ x.st = 2 ∧ x.pre = 0 ∨ x.st = 3 ∧ wt = [(9, 0)])
  | c0 (b : XB ck wt x) (sure : x.sure = false) (phased : x.phased = false) (job : x.job = 4) (old : x.old = []) (rw0 : x.rows = []) (mem : Mem0 s 0 wv [] [] zeroD 0) (st : x.st = 0)
  | lk (cx : CX ck wt x) (ws : x.ws ≠ []) (sure : x.sure = false) (xi : x.i = x.old.length) (lt : x.old.length < x.rows.length) (st : x.st = 1 ∨ x.st = 2 ∧ x.pre = 0) (mem : Mem0 s 0 wv (x.rows.take x.old.length) [] zeroD 2)
  | bp (cx : CX ck wt x) (ws : x.ws ≠ []) (sure : x.sure = false) (full : x.old.length = x.rows.length) (st : x.st = 3) (mem : Mem0 s 0 wv x.rows [] zeroD 2)
      (bump : ck = 1 ∧ x.bump = ⟨1, 0, 0, 0⟩ ∨ ck = 2 ∧ x.bump = ⟨2, 0, 0, 0⟩ ∨ ck = 2 ∧ x.bump = ⟨2, 1, 0, 0⟩)
  | ckd (cx : CX ck wt x) (ws : x.ws ≠ []) (sure : x.sure = false) (full : x.old.length = x.rows.length) (st : x.st = 4) (made : x.made = 1) (lt : x.i < x.rs.length) (mem : Mem0 s 1 wv x.rows [] zeroD 2)
  | wt (cx : CX ck wt x) (sure : x.sure = false) (full : x.old.length = x.rows.length) (st : x.st = 5) (hw : wt = [(9, 0)]) (xi : x.i = 0) (mem : x.ws = [] ∧ x.rows = [] ∧ Mem0 s 0 wv [] [] zeroD 2 ∨ x.ws ≠ [] ∧ x.made = 1 ∧ Mem0 s 1 wv x.rows [] zeroD 2)
  | wr (cx : CX ck wt x) (sure : x.sure = true) (st : x.st = 6) (made : x.made = 1) (lt : x.i < x.ws.length) (mem : Mem0 s 1 wv x.rows [] (datW (x.ws.take x.i)) 2)
  | fr (cx : CX ck wt x) (ws : x.ws ≠ []) (sure : x.sure = true) (st : x.st = 7) (made : x.made = 1) (lt : x.i < x.rows.length) (mem : Mem0 s 1 wv (x.rows.drop x.i) (x.rows.take x.i) (datW x.ws) 2)
  | en (b : XB ck wt x) (sure : x.sure = true) (job : x.job = 4) (st : x.st = 8) (mem : x.ws = [] ∧ Mem0 s 0 wv [] [] zeroD 2 ∨ x.ws ≠ [] ∧ x.made = 1 ∧ Mem0 s 1 wv [] x.rows (datW x.ws) 2)
/-- It is being undone. -/
structure UX (cause wv : Int) (s : MS) (x : TX) : Prop where
  m : x.m = mT
  th : x.th = 1
  alive : x.alive = false
  job : x.job = 5
  phased : x.phased = true
  cause : x.cause = cause
  made : x.made = 0
  rows : RowsOk x.rows
  old : ∀ j, j < x.old.length → x.old[j]? = some 0
  le : x.old.length ≤ x.rows.length
  xi : x.i ≤ x.old.length
  mem : ∃ c, Mem0 s c wv ((x.rows.take x.old.length).drop x.i) [] zeroD 2
/-- It was undone. -/
structure DX (cause wv : Int) (s : MS) (x : TX) : Prop where
  alive : x.alive = false
  job : x.job = 0
  cause : x.cause = cause
  made : x.made = 0
  mem : ∃ c, Mem0 s c wv [] [] zeroD 0
/-- It is done. -/
structure EX (wv : Int) (s : MS) (x : TX) : Prop where
  alive : x.alive = false
  job : x.job = 0
  sure : x.sure = true
  ws : WsOk x.ws
  mem : x.ws = [] ∧ Mem0 s 0 wv [] [] zeroD 0 ∨ x.ws ≠ [] ∧ x.made = 1 ∧ x.stamp = 1 ∧ ∃ fr, Mem0 s 1 wv [] fr (datW x.ws) 0

/-- The watched word turns. -/
theorem SX.turned {ck : Int} {wt : List Wd} {wv : Int} {s : MS} {x : TX} (h : SX ck wt wv s x) (v : Int) : SX ck wt v (s.stored 9 v) x := by
  cases h with
  | idle b sure phased job old rw0 mem => exact .idle b sure phased job old rw0 (mem.word v)
  | rd d b sure phased job old rw0 mem hd hat xi lt st => exact .rd d b sure phased job old rw0 (mem.word v) hd hat xi lt st
  | c0 b sure phased job old rw0 mem st => exact .c0 b sure phased job old rw0 (mem.word v) st
  | lk cx ws sure xi lt st mem => exact .lk cx ws sure xi lt st (mem.word v)
  | bp cx ws sure full st mem bump => exact .bp cx ws sure full st (mem.word v) bump
  | ckd cx ws sure full st made lt mem => exact .ckd cx ws sure full st made lt (mem.word v)
  | wt cx sure full st hw xi mem => exact .wt cx sure full st hw xi (mem.imp (fun h => ⟨h.1, h.2.1, h.2.2.word v⟩) (fun h => ⟨h.1, h.2.1, h.2.2.word v⟩))
  | wr cx sure st made lt mem => exact .wr cx sure st made lt (mem.word v)
  | fr cx ws sure st made lt mem => exact .fr cx ws sure st made lt (mem.word v)
  | en b sure job st mem => exact .en b sure job st (mem.imp (fun h => ⟨h.1, h.2.word v⟩) (fun h => ⟨h.1, h.2.1, h.2.2.word v⟩))

/-- Aborted, by whatever cause: at once, or it is to be undone. -/
theorem SX.abort {ck : Int} {wt : List Wd} {wv : Int} {s : MS} {x : TX} (h : SX ck wt wv s x) (sure : x.sure = false) (c : Int) : (x.abort c).1 = 2 ∧ DX c wv s (x.abort c).2 ∨ (x.abort c).1 = 0 ∧ UX c wv s (x.abort c).2 := by
  have now : x.old = [] → x.phased = false → Mem0 s 0 wv [] [] zeroD 0 → (x.abort c).1 = 2 ∧ DX c wv s (x.abort c).2 := fun h1 h2 hm => by
    rw [abort_dead h1 h2]
    exact ⟨rfl, rfl, rfl, rfl, rfl, 0, hm⟩
  have later : CX ck wt x → (∃ c, Mem0 s c wv (x.rows.take x.old.length) [] zeroD 2) → (x.abort c).1 = 0 ∧ UX c wv s (x.abort c).2 := fun cx ⟨c', hm⟩ => by
    rw [abort_busy cx.phased]
    exact ⟨rfl, cx.b.m, cx.b.th, rfl, rfl, cx.phased, rfl, rfl, cx.rows, cx.old, cx.le, Nat.zero_le _, c', hm⟩
  cases h with
  | idle b _ phased job old rw0 mem => exact .inl (now old phased mem)
  | rd d b _ phased job old rw0 mem hd hat xi lt st => exact .inl (now old phased mem)
  | c0 b _ phased job old rw0 mem st => exact .inl (now old phased mem)
  | lk cx ws _ xi lt st mem => exact .inr (later cx ⟨_, mem⟩)
  | bp cx ws _ full st mem bump => exact .inr (later cx ⟨_, by rw [full, List.take_length]; exact mem⟩)
  | ckd cx ws _ full st made lt mem => exact .inr (later cx ⟨_, by rw [full, List.take_length]; exact mem⟩)
  | wt cx _ full st hw xi mem =>
    refine .inr (later cx ?_)
    rw [full, List.take_length]
    rcases mem with ⟨_, h2, h3⟩ | ⟨_, _, h3⟩
    · exact ⟨_, by rw [h2]; exact h3⟩
    · exact ⟨_, h3⟩
  | wr cx hs st made lt mem => rw [sure] at hs; cases hs
  | fr cx ws hs st made lt mem => rw [sure] at hs; cases hs
  | en b hs job st mem => rw [sure] at hs; cases hs

/-- One access of undoing. -/
theorem UX.step {c wv : Int} {s : MS} {x : TX} (h : UX c wv s x) : (∃ x' s', txStep s x = (0, x', s') ∧ UX c wv s' x' ∧ x'.old = x.old ∧ x'.i = x.i + 1 ∧ x.i < x.old.length) ∨ ∃ x' s', txStep s x = (2, x', s') ∧ DX c wv s' x' := by
  obtain ⟨c', mem⟩ := h.mem
  by_cases hi : x.i < x.old.length
  · obtain ⟨k, hk, hrow⟩ := h.rows.at (j := x.i) (Nat.lt_of_lt_of_le hi h.le)
    have hrp : x.stripeP (x.rows.getD x.i 0) = 2 + (k : Int) := row_at h.m hk hrow
    have ho : x.old.getD x.i 0 = 0 := by rw [List.getD_eq_getElem?_getD, h.old x.i hi]; rfl
    have hrt : (x.rows.take x.old.length)[x.i]? = some (k : Int) := by rw [List.getElem?_take_of_lt hi]; exact hrow
    have hnd : (x.rows.take x.old.length).Nodup := h.rows.nd.sublist (List.take_sublist _ _)
    have e := stU_row (s := s) hi h.phased h.job hrp
    rw [ho] at e
    have hhas : s.has (2 + (k : Int)) := mem.has (by omega) (by omega)
    have key := heldL_drop hnd hrt
    have hmem : ∀ j : Nat, (j : Int) ∈ (x.rows.take x.old.length).drop (x.i + 1) ↔ j ≠ k ∧ (j : Int) ∈ (x.rows.take x.old.length).drop x.i := fun j => by
      have := congrFun key j
      unfold fset heldL at this
      by_cases ej : j = k
      · subst ej; simp at this; simp [this]
      · rw [if_neg ej, decide_eq_decide] at this
        rw [← this]
        simp [ej]
    refine .inl ⟨_, _, (step_undo h.job).trans e, ⟨h.m, h.th, h.alive, h.job, h.phased, h.cause, h.made, h.rows, h.old, h.le, hi, c', ?_⟩, rfl, rfl, hi⟩
    refine mem.stripe 0 _ _ (len_stored _ _ _) (fun q => vq_stored hhas _ q) hk ?_ (fun j hj => ?_) (fun j hj => Iff.rfl)
    · rw [if_neg (fun hx => ((hmem k).1 hx).1 rfl), if_neg (by simp)]
    · rw [hmem j]
      simp [hj]
  · have e := stU_end (s := s) hi
    have hph : x.phaseP = 13 := by unfold TX.phaseP; rw [h.m, h.th]; exact mT_phase (t := 1) (by decide)
    rw [hph] at e
    refine .inr ⟨_, _, (step_undo h.job).trans e, h.alive, rfl, h.cause, h.made, c', ?_⟩
    have : (x.rows.take x.old.length).drop x.i = [] := List.drop_eq_nil_of_le (by rw [List.length_take]; omega)
    rw [this] at mem
    exact mem.phase 0

end Go.Proofs.Ytjfinnjmcnjciaa

namespace Go.Proofs.Ytjfinnjmcnjciaa
open Go.RowKit

/-- How far a job is from its end. -/
def mx (x : TX) : Nat :=
  if x.job = 2 then 10 - x.st.toNat
  else if x.st = 0 then 60
  else if x.st = 1 then 50 - 2 * x.i
  else if x.st = 2 then 49 - 2 * x.i
  else if x.st = 3 then (if x.bump.s = 0 then 41 else 40)
  else if x.st = 4 then 38 - x.i
  else if x.st = 5 then 29
  else if x.st = 6 then 28 - x.i
  else if x.st = 7 then 20 - x.i
  else 10
theorem mx_com {x : TX} (h : x.job = 4) : mx x = if x.st = 0 then 60
  else if x.st = 1 then 50 - 2 * x.i
  else if x.st = 2 then 49 - 2 * x.i
  else if x.st = 3 then (if x.bump.s = 0 then 41 else 40)
  else if x.st = 4 then 38 - x.i
  else if x.st = 5 then 29
  else if x.st = 6 then 28 - x.i
  else if x.st = 7 then 20 - x.i
  else 10 := by unfold mx; rw [if_neg (by rw [h]; decide)]
theorem mx_rd {x : TX} (h : x.job = 2) : mx x = 10 - x.st.toNat := by unfold mx; rw [if_pos h]

/-- What a step comes to. -/
inductive StepX (ck : Int) (wt : List Wd) (wv : Int) (x : TX) : Int × TX × MS → Prop
  | on (x' : TX) (s' : MS) (h : SX ck wt wv s' x') (job : x'.job = x.job) (less : mx x' < mx x) (ws : x'.ws = x.ws) (rs : x'.rs = x.rs) : StepX ck wt wv x (0, x', s')
  | undo (x' : TX) (s' : MS) (h : UX 3 wv s' x') (hw : wv ≠ 0) : StepX ck wt wv x (0, x', s')
  | dead (x' : TX) (s' : MS) (h : DX 3 wv s' x') (hw : wv ≠ 0) : StepX ck wt wv x (2, x', s')
  | read (x' : TX) (s' : MS) (h : SX ck wt wv s' x') (job : x.job = 2) (job' : x'.job = 0) (sure : x'.sure = false) (ws : x'.ws = x.ws) (rs : x'.rs.length ≤ x.rs.length + 1) : StepX ck wt wv x (1, x', s')
  | done (x' : TX) (s' : MS) (h : EX wv s' x') (job : x.job = 4) (ws : x'.ws = x.ws) : StepX ck wt wv x (1, x', s')

theorem XB.stripe {ck : Int} {wt : List Wd} {x : TX} (b : XB ck wt x) {d : Nat} (hd : d < 4) (ha : x.at_ = dataP d) : x.stripeP (x.m.hash x.at_) = 2 + (sgm d : Int) ∧ x.m.hash x.at_ = (sgm d : Int) := by
  have h1 : x.m.hash x.at_ = (sgm d : Int) := by
    rw [b.m, ha]
    exact (mT_hash hd).1
  refine ⟨?_, h1⟩
  unfold TX.stripeP
  rw [h1, b.m, mT_stripe (mT_hash hd).2]
theorem XB.phase {ck : Int} {wt : List Wd} {x : TX} (b : XB ck wt x) : x.phaseP = 13 := by unfold TX.phaseP; rw [b.m, b.th]; exact mT_phase (t := 1) (by decide)
theorem zero_stripe {s : MS} {c wv ph : Int} {dt : Nat → Int} (h : Mem0 s c wv [] [] dt ph) {k : Nat} (hk : k < 3) : s.vAt (2 + (k : Int)) = 0 := by rw [h.str k hk, if_neg (by simp), if_neg (by simp)]
theorem tell_now {x : TX} (st : x.st = 5) (i : x.i = 0) (wt : x.wt = []) : x.tell = { x with sure := true, i := 0, st := if x.ws = [] then 8 else 6 } := by
  unfold TX.tell
  rw [if_neg (by rw [st, i, wt]; simp)]
theorem tell_later {x : TX} (i : x.i = 0) (wt : x.wt = [(9, 0)]) : x.tell = x := by
  unfold TX.tell
  rw [if_pos (.inr (by rw [i, wt]; decide))]
theorem tell_last {x : TX} (st : x.st = 5) (i : x.i = 1) (wt : x.wt = [(9, 0)]) : x.tell = { x with sure := true, i := 0, st := if x.ws = [] then 8 else 6 } := by
  unfold TX.tell
  rw [if_neg (by rw [st, i, wt]; simp)]

/-- All is looked through but the watched word. -/
theorem decide_x {ck : Int} {wt : List Wd} {wv : Int} {s' : MS} {x y : TX} (hw : WtOk wt) (cx : CX ck wt y) (sure : y.sure = false) (full : y.old.length = y.rows.length) (st : y.st = 5) (xi : y.i = 0)
    (mem : y.ws = [] ∧ y.rows = [] ∧ Mem0 s' 0 wv [] [] zeroD 2 ∨ y.ws ≠ [] ∧ y.made = 1 ∧ Mem0 s' 1 wv y.rows [] zeroD 2) (hj : x.job = 4) (hm : 29 < mx x) (hws : y.ws = x.ws) (hrs : y.rs = x.rs) : StepX ck wt wv x (0, y.tell, s') := by
  rcases hw with rfl | rfl
  · rw [tell_now st xi cx.b.wt]
    by_cases hy : y.ws = []
    · have hm0 := mem.resolve_right (fun h => h.1 hy)
      refine .on _ _ (.en ⟨cx.b.m, cx.b.th, cx.b.ckk, cx.b.top, cx.b.mr, cx.b.mw, cx.b.wt, cx.b.alive, cx.b.stamp, cx.b.ws, cx.b.rs⟩ rfl cx.job (by show (if y.ws = [] then 8 else 6) = (8 : Int); rw [if_pos hy]) (.inl ⟨hy, hm0.2.2⟩)) (by rw [hj]; exact cx.job) ?_ hws hrs
      rw [mx_com (x := { y with sure := true, i := 0, st := if y.ws = [] then 8 else 6 }) cx.job]
      simp only [hy, if_true]
      simp
      omega
    · have hm1 := mem.resolve_left (fun h => hy h.1)
      refine .on _ _ (.wr ⟨⟨cx.b.m, cx.b.th, cx.b.ckk, cx.b.top, cx.b.mr, cx.b.mw, cx.b.wt, cx.b.alive, cx.b.stamp, cx.b.ws, cx.b.rs⟩, cx.job, cx.phased, cx.rows, cx.old, cx.le, cx.ne⟩ rfl (by show (if y.ws = [] then 8 else 6) = (6 : Int); rw [if_neg hy]) hm1.2.1 (List.length_pos_iff.2 hy) hm1.2.2) (by rw [hj]; exact cx.job) ?_ hws hrs
      rw [mx_com (x := { y with sure := true, i := 0, st := if y.ws = [] then 8 else 6 }) cx.job]
      simp only [hy, if_false]
      simp
      omega
  · rw [tell_later xi cx.b.wt]
    refine .on _ _ (.wt cx sure full st rfl xi mem) (by rw [hj]; exact cx.job) ?_ hws hrs
    rw [mx_com cx.job, st]
    simp
    omega

/-- The word that is watched, looked at. -/
theorem watch_x {s : MS} {x : TX} (i : x.i = 0) (wt : x.wt = [(9, 0)]) : watchF s x = if s.vAt 9 ≠ 0 then (2, x, s.loaded 9) else (1, { x with i := 1 }, s.loaded 9) := by
  obtain ⟨m, th, ck, top, mr, mw, rs, ws', asked, wt', alive, sure, phased, job, st', i', at_, got, pre, next, val, stamp, made, cause, rows, old, bump⟩ := x
  simp only at i wt
  subst i wt
  rfl

theorem SX.step_rd {ck : Int} {wt : List Wd} {wv : Int} {s : MS} {x : TX} (hw : WtOk wt) (d : Nat) (b : XB ck wt x) (sure : x.sure = false) (phased : x.phased = false) (job : x.job = 2) (old : x.old = []) (rw0 : x.rows = []) (mem : Mem0 s 0 wv [] [] zeroD 0) (hd : d < 4) (hat : x.at_ = dataP d) (xi : x.i = 0) (lt : x.rs.length < 8)
    (st : x.st = 0 ∨ x.st = 1 ∧ x.pre = 0 ∨ x.st = 2 ∧ x.pre = 0 ∨ x.st = 3 ∧ wt = [(9, 0)]) : StepX ck wt wv x (txStep s x) := by
  obtain ⟨hsp, hha⟩ := b.stripe hd hat
  have hk := (mT_hash hd).2
  have hz := zero_stripe mem hk
  rw [step_read job]
  have hrs : (putL x.mr x.rs (x.m.hash x.at_) 0).length ≤ x.rs.length + 1 ∧ (putL x.mr x.rs (x.m.hash x.at_) 0).length ≤ 8 ∧ ∀ p ∈ putL x.mr x.rs (x.m.hash x.at_) 0, ∃ k : Nat, k < 3 ∧ p.1 = (k : Int) := by
    rw [hha, b.mr]
    cases hh : hasL x.rs (sgm d : Int) with
    | true => rw [putL_there _ hh]; exact ⟨by omega, b.rs.1, b.rs.2⟩
    | false =>
      rw [putL_new _ hh (by omega)]
      refine ⟨by rw [List.length_append]; simp, by rw [List.length_append, List.length_singleton]; omega, fun p hp => ?_⟩
      rcases List.mem_append.1 hp with hp | hp
      · exact b.rs.2 p hp
      · simp at hp; subst hp; exact ⟨_, hk, rfl⟩
  have fin : ∀ (y : TX) (s' : MS), y = { x with st := 3, i := y.i, val := x.got, rs := putL x.mr x.rs (x.m.hash x.at_) 0, job := 0 } → Mem0 s' 0 wv [] [] zeroD 0 → StepX ck wt wv x (1, y, s') := fun y s' hy hm => by
    refine .read y s' (.idle ?_ ?_ ?_ ?_ ?_ ?_ hm) job ?_ ?_ ?_ ?_
    · rw [hy]; exact ⟨b.m, b.th, b.ckk, b.top, b.mr, b.mw, b.wt, b.alive, b.stamp, b.ws, hrs.2⟩
    · rw [hy]; exact sure
    · rw [hy]; exact phased
    · rw [hy]
    · rw [hy]; exact old
    · rw [hy]; exact rw0
    · rw [hy]
    · rw [hy]; exact sure
    · rw [hy]
    · rw [hy]; exact hrs.1
  rcases st with st | ⟨st, pre⟩ | ⟨st, pre⟩ | ⟨st, rfl⟩
  · have hf : freshF (s.vAt (2 + (sgm d : Int))) x.stamp = 0 := by rw [hz, b.stamp]; rfl
    rw [stRead_0y st hsp hf, hz]
    refine .on _ _ (.rd d ⟨b.m, b.th, b.ckk, b.top, b.mr, b.mw, b.wt, b.alive, b.stamp, b.ws, b.rs⟩ sure phased job old rw0 (mem.load _) hd hat xi lt (.inr (.inl ⟨rfl, rfl⟩))) rfl ?_ rfl rfl
    rw [mx_rd (by exact job), mx_rd job, st]
    show 10 - (1 : Int).toNat < 10 - (0 : Int).toNat
    decide
  · rw [stRead_1 st]
    refine .on _ _ (.rd d ⟨b.m, b.th, b.ckk, b.top, b.mr, b.mw, b.wt, b.alive, b.stamp, b.ws, b.rs⟩ sure phased job old rw0 (mem.load _) hd hat xi lt (.inr (.inr (.inl ⟨rfl, pre⟩)))) rfl ?_ rfl rfl
    rw [mx_rd (by exact job), mx_rd job, st]
    show 10 - (2 : Int).toNat < 10 - (1 : Int).toNat
    decide
  · have hc : s.vAt (2 + (sgm d : Int)) = x.pre := by rw [hz, pre]
    rcases hw with rfl | rfl
    · rw [stRead_2y st hsp hc (by rw [xi, b.wt]; simp)]
      exact fin _ _ (by rfl) (mem.load _)
    · have e : stRead s x = (0, { x with st := 3 }, s.loaded (2 + (sgm d : Int))) := by
        unfold stRead
        rw [if_neg (by rw [st]; decide), if_neg (by rw [st]; decide), if_pos st, hsp, if_neg (by simpa using hc)]
        unfold readEnd
        rw [if_pos (by show x.i < x.wt.length; rw [xi, b.wt]; decide)]
      rw [e]
      refine .on _ _ (.rd d ⟨b.m, b.th, b.ckk, b.top, b.mr, b.mw, b.wt, b.alive, b.stamp, b.ws, b.rs⟩ sure phased job old rw0 (mem.load _) hd hat xi lt (.inr (.inr (.inr ⟨rfl, rfl⟩)))) rfl ?_ rfl rfl
      rw [mx_rd (by exact job), mx_rd job, st]
      show 10 - (3 : Int).toNat < 10 - (2 : Int).toNat
      decide
  · have hwf := watch_x (s := s) xi b.wt
    have e0 : stRead s x = if (watchF s x).1 = 0 then (0, (watchF s x).2) else if (watchF s x).1 = 2 then ((x.abort 3).1, (x.abort 3).2, (watchF s x).2.2) else ((readEnd (watchF s x).2.1).1, (readEnd (watchF s x).2.1).2, (watchF s x).2.2) := by
      unfold stRead
      rw [if_neg (by rw [st]; decide), if_neg (by rw [st]; decide), if_neg (by rw [st]; decide)]
    rw [e0, hwf]
    by_cases h9 : s.vAt 9 ≠ 0
    · rw [if_pos h9, if_neg (show ¬ ((2 : Int) = 0) by decide), if_pos (show (2 : Int) = 2 from rfl), abort_dead old phased]
      exact .dead _ _ ⟨rfl, rfl, rfl, rfl, 0, mem.load _⟩ (by rw [← mem.wd]; exact h9)
    · rw [if_neg h9, if_neg (show ¬ ((1 : Int) = 0) by decide), if_neg (show ¬ ((1 : Int) = 2) by decide)]
      have e : readEnd { x with i := 1 } = (1, { x with i := 1, val := x.got, rs := putL x.mr x.rs (x.m.hash x.at_) 0, job := 0 }) := by
        unfold readEnd
        rw [if_neg (by show ¬ 1 < x.wt.length; rw [b.wt]; decide)]
      rw [e]
      refine fin _ _ ?_ (mem.load _)
      show ({ x with i := 1, val := x.got, rs := putL x.mr x.rs (x.m.hash x.at_) 0, job := 0 } : TX) = { x with st := 3, i := 1, val := x.got, rs := putL x.mr x.rs (x.m.hash x.at_) 0, job := 0 }
      rw [← st]

theorem datW_snoc {ws : List Wd} (h : WsOk ws) {i d : Nat} {v : Int} (hd4 : d < 4) (hi : ws[i]? = some (dataP d, v)) : ∀ d', d' < 4 → datW (ws.take (i + 1)) d' = if d' = d then v else datW (ws.take i) d' := fun d' hd' => by
  have hn : hasL (ws.take i) (dataP d) = false := by
    obtain ⟨hl, he⟩ := List.getElem?_eq_some_iff.1 hi
    cases hx : hasL (ws.take i) (dataP d) with
    | false => rfl
    | true =>
      obtain ⟨p, hp, hpx⟩ := List.any_eq_true.1 hx
      have hnd : ((ws.take (i + 1)).map fun p => p.1).Nodup := h.nd.sublist ((List.take_sublist _ _).map _)
      rw [take_more hi, List.map_append] at hnd
      have := (List.nodup_append.1 hnd).2.2 p.1 (List.mem_map.2 ⟨p, hp, rfl⟩) (dataP d) (by simp)
      exact absurd (by simpa using hpx) this
  unfold datW
  rw [take_more hi, valL_snoc _ _ _ _ hn]
  by_cases e : d' = d
  · subst e; rw [if_pos rfl, if_pos rfl]
  · rw [if_neg (by unfold dataP; omega), if_neg e]

theorem rows_of {ws : List Wd} (h : WsOk ws) (hne : ws ≠ []) : RowsOk (rowsL mT (ws.map fun p => p.1) 3) ∧ rowsL mT (ws.map fun p => p.1) 3 ≠ [] := by
  refine ⟨⟨?_, fun r hr => ?_⟩, fun e => ?_⟩
  · unfold rowsL
    exact List.Pairwise.map _ (fun a b hab e => hab (by omega)) (List.nodup_range.sublist (List.filter_sublist ..))
  · unfold rowsL at hr
    obtain ⟨k, hk, rfl⟩ := List.mem_map.1 hr
    have := List.mem_range.1 (List.mem_filter.1 hk).1
    exact ⟨k, this, rfl⟩
  · cases hws : ws with
    | nil => exact hne hws
    | cons p l =>
      obtain ⟨d, hd, hp⟩ := h.one p (by rw [hws]; exact List.mem_cons_self ..)
      have hm : ((sgm d : Nat) : Int) ∈ rowsL mT (ws.map fun p => p.1) 3 := by
        unfold rowsL
        refine List.mem_map.2 ⟨sgm d, List.mem_filter.2 ⟨List.mem_range.2 (mT_hash hd).2, ?_⟩, rfl⟩
        refine List.any_eq_true.2 ⟨p.1, List.mem_map.2 ⟨p, by rw [hws]; exact List.mem_cons_self .., rfl⟩, ?_⟩
        rw [hp]
        unfold dataP
        rw [(mT_hash hd).1]
        simp
      rw [e] at hm
      cases hm
theorem stC0 {s : MS} {x : TX} (st : x.st = 0) : stCommit s x = (0, ({ x with phased := true, i := 0, st := if x.ws = [] then 5 else 1, rows := if x.ws = [] then x.rows else rowsL x.m (x.ws.map fun p => p.1) x.m.s.toNat } : TX).tell, s.stored x.phaseP 2) := by
  unfold stCommit
  rw [if_pos st]
theorem stC3 {s : MS} {x : TX} (st : x.st = 3) {b : BD} {s2 : MS} (hb : bumpF x.m s x.bump = (b, s2)) (h9 : b.s = 9) (ht : ¬ x.top < b.p) :
    stCommit s x = (0, ({ x with bump := b, made := b.p, i := 0, st := if (b.k = 1 ∧ b.p = wrap64 (x.stamp + 1)) ∨ x.rs = [] then 5 else 4 } : TX).tell, s2) := by
  unfold stCommit
  rw [if_neg (by rw [st]; decide), if_neg (by rw [st]; decide), if_neg (by rw [st]; decide), if_pos st, hb, if_neg (by simpa using h9), if_neg ht]
theorem stC4end {s : MS} {x : TX} (st : x.st = 4) {row : Int} (hr : x.stripeP (x.rs.getD x.i (0, 0)).1 = row) (hh : ¬ (0 ≤ holF (s.vAt row) ∧ holF (s.vAt row) ≠ x.th)) (hv : ¬ x.stamp < verF (s.vAt row)) (hi : ¬ x.i + 1 < x.rs.length) :
    stCommit s x = (0, ({ x with st := 5, i := 0 } : TX).tell, s.loaded row) := by
  unfold stCommit
  rw [if_neg (by rw [st]; decide), if_neg (by rw [st]; decide), if_neg (by rw [st]; decide), if_neg (by rw [st]; decide), if_pos st, hr, if_neg hh, if_neg hv, if_neg hi]
theorem stC5 {s : MS} {x : TX} (st : x.st = 5) : stCommit s x = if (watchF s x).1 = 2 then ((x.abort 3).1, (x.abort 3).2, (watchF s x).2.2) else (0, (watchF s x).2.1.tell, (watchF s x).2.2) := by
  unfold stCommit
  rw [if_neg (by rw [st]; decide), if_neg (by rw [st]; decide), if_neg (by rw [st]; decide), if_neg (by rw [st]; decide), if_neg (by rw [st]; decide), if_pos st]
theorem tell_four {x : TX} (st : x.st ≠ 5) : x.tell = x := by
  unfold TX.tell
  rw [if_pos (.inl st)]

theorem SX.step_com {ck : Int} {wt : List Wd} {wv : Int} {s : MS} {x : TX} (hw : WtOk wt) (hck : ck = 1 ∨ ck = 2) (h : SX ck wt wv s x) (job : x.job = 4) : StepX ck wt wv x (txStep s x) := by
  have ej : txStep s x = stCommit s x := by unfold txStep; rw [job]; rfl
  rw [ej]
  cases h with
  | idle b sure phased j old rw0 mem => rw [j] at job; cases job
  | rd d b sure phased j old rw0 mem hd hat xi lt st => rw [j] at job; cases job
  | c0 b sure phased j old rw0 mem st =>
    have hm : mx x = 60 := by rw [mx_com job, if_pos st]
    rw [stC0 st, b.phase]
    by_cases hy : x.ws = []
    · refine decide_x hw ⟨⟨b.m, b.th, b.ckk, b.top, b.mr, b.mw, b.wt, b.alive, b.stamp, b.ws, b.rs⟩, job, rfl, ?_, ?_, ?_, fun h => absurd hy h⟩ sure ?_ ?_ rfl (.inl ⟨hy, ?_, mem.phase 2⟩) job (by omega) rfl rfl
      · show RowsOk (if x.ws = [] then x.rows else _)
        rw [if_pos hy, rw0]
        exact ⟨List.nodup_nil, fun r hr => by cases hr⟩
      · intro j' hj'
        have hj' : j' < x.old.length := hj'
        rw [old] at hj'
        exact absurd hj' (Nat.not_lt_zero _)
      · show x.old.length ≤ _
        rw [old]
        exact Nat.zero_le _
      · show x.old.length = (if x.ws = [] then x.rows else _).length
        rw [if_pos hy, rw0, old]
      · show (if x.ws = [] then (5 : Int) else 1) = 5
        rw [if_pos hy]
      · show (if x.ws = [] then x.rows else _) = []
        rw [if_pos hy, rw0]
    · obtain ⟨r1, r2⟩ := rows_of b.ws hy
      have hrows : rowsL x.m (x.ws.map fun p => p.1) x.m.s.toNat = rowsL mT (x.ws.map fun p => p.1) 3 := by rw [b.m]; rfl
      rw [tell_four (by show (if x.ws = [] then (5 : Int) else 1) ≠ 5; rw [if_neg hy]; decide)]
      have hst : ({ x with phased := true, i := 0, st := if x.ws = [] then 5 else 1, rows := if x.ws = [] then x.rows else rowsL x.m (x.ws.map fun p => p.1) x.m.s.toNat } : TX) = { x with phased := true, i := 0, st := 1, rows := rowsL mT (x.ws.map fun p => p.1) 3 } := by
        rw [if_neg hy, if_neg hy, hrows]
      rw [hst]
      refine .on _ _ (.lk ⟨⟨b.m, b.th, b.ckk, b.top, b.mr, b.mw, b.wt, b.alive, b.stamp, b.ws, b.rs⟩, job, rfl, r1, ?_, ?_, fun _ => r2⟩ hy sure ?_ ?_ (.inl rfl) ?_) rfl ?_ rfl rfl
      · intro j' hj'
        have hj' : j' < x.old.length := hj'
        rw [old] at hj'
        exact absurd hj' (Nat.not_lt_zero _)
      · show x.old.length ≤ _
        rw [old]
        exact Nat.zero_le _
      · show 0 = x.old.length
        rw [old]; rfl
      · show x.old.length < (rowsL mT (x.ws.map fun p => p.1) 3).length
        rw [old]
        exact List.length_pos_iff.2 r2
      · show Mem0 _ 0 wv ((rowsL mT (x.ws.map fun p => p.1) 3).take x.old.length) [] zeroD 2
        rw [old]
        exact mem.phase 2
      · rw [hm, mx_com (by exact job)]
        show (if (1 : Int) = 0 then 60 else if (1 : Int) = 1 then 50 - 2 * 0 else _) < 60
        rw [if_neg (by decide), if_pos rfl]
        decide
  | lk cx ws sure xi lt st mem =>
    have b := cx.b
    have h3 := rows_le cx.rows
    obtain ⟨k, hk, hrow⟩ := cx.rows.at lt
    have hrp : x.stripeP (x.rows.getD x.i 0) = 2 + (k : Int) := by rw [xi]; exact row_at b.m hk hrow
    have hnew : ¬ (k : Int) ∈ x.rows.take x.old.length := by
      have := heldL_new cx.rows.nd hrow
      unfold heldL at this
      simpa using this
    have hz : s.vAt (2 + (k : Int)) = 0 := by rw [mem.str k hk, if_neg hnew, if_neg (by simp)]
    rcases st with st | ⟨st, pre⟩
    · have hm : mx x = 50 - 2 * x.i := by rw [mx_com job, if_neg (by rw [st]; decide), if_pos st]
      rw [stC1y st hrp (by rw [hz]; decide), hz]
      refine .on _ _ (.lk ⟨⟨b.m, b.th, b.ckk, b.top, b.mr, b.mw, b.wt, b.alive, b.stamp, b.ws, b.rs⟩, job, cx.phased, cx.rows, cx.old, cx.le, cx.ne⟩ ws sure xi lt (.inr ⟨rfl, rfl⟩) (mem.load _)) rfl ?_ rfl rfl
      rw [hm, mx_com (by exact job)]
      show (if (2 : Int) = 0 then 60 else if (2 : Int) = 1 then 50 - 2 * x.i else if (2 : Int) = 2 then 49 - 2 * x.i else _) < _
      rw [if_neg (by decide), if_neg (by decide), if_pos rfl]
      omega
    · have hm : mx x = 49 - 2 * x.i := by rw [mx_com job, if_neg (by rw [st]; decide), if_neg (by rw [st]; decide), if_pos st]
      have hhas : s.has (2 + (k : Int)) := mem.has (by omega) (by omega)
      have hok : s.okAt (2 + (k : Int)) x.pre = true := by rw [ok_iff hhas, hz, pre]; rfl
      have htk : takeF x.pre x.th = 2 := by rw [pre, b.th]; rfl
      have hlen : (x.old ++ [x.pre]).length = x.old.length + 1 := by rw [List.length_append, List.length_singleton]
      have hold : ∀ j, j < (x.old ++ [x.pre]).length → (x.old ++ [x.pre])[j]? = some 0 := fun j hj => by
        rw [hlen] at hj
        by_cases e : j < x.old.length
        · rw [List.getElem?_append_left e]; exact cx.old j e
        · rw [List.getElem?_append_right (by omega), show j - x.old.length = 0 by omega, pre]; rfl
      have hmem : Mem0 (s.swapped (2 + (k : Int)) x.pre (takeF x.pre x.th)) 0 wv (x.rows.take (x.old.length + 1)) [] zeroD 2 := by
        have htake : x.rows.take (x.old.length + 1) = x.rows.take x.old.length ++ [(k : Int)] := by
          obtain ⟨hl, he⟩ := List.getElem?_eq_some_iff.1 hrow
          rw [List.take_succ_eq_append_getElem hl, he]
        refine mem.stripe 2 _ _ (len_swapped _ _ _ _) (fun q => ?_) hk ?_ (fun j hj => ?_) (fun _ _ => Iff.rfl)
        · rw [vq_swap hhas, hz, htk, pre]
          by_cases hq : q = 2 + (k : Int)
          · rw [if_pos ⟨rfl, hq⟩, if_pos hq]
          · rw [if_neg (fun h => hq h.2), if_neg hq]
        · rw [if_pos (by rw [htake]; simp)]
        · rw [htake]
          simp
          omega
      by_cases hi : x.i + 1 = x.rows.length
      · rw [stC2last st hrp hok hi]
        refine .on _ _ (.bp ⟨⟨b.m, b.th, b.ckk, b.top, b.mr, b.mw, b.wt, b.alive, b.stamp, b.ws, b.rs⟩, job, cx.phased, cx.rows, hold, ?_, cx.ne⟩ ws sure ?_ rfl ?_ ?_) rfl ?_ rfl rfl
        · show (x.old ++ [x.pre]).length ≤ x.rows.length
          rw [hlen]; omega
        · show (x.old ++ [x.pre]).length = x.rows.length
          rw [hlen]; omega
        · rw [show x.old.length + 1 = x.rows.length by omega, List.take_length] at hmem
          exact hmem
        · show ck = 1 ∧ startB x.ck = ⟨1, 0, 0, 0⟩ ∨ ck = 2 ∧ startB x.ck = ⟨2, 0, 0, 0⟩ ∨ ck = 2 ∧ startB x.ck = ⟨2, 1, 0, 0⟩
          rw [b.ckk]
          rcases hck with rfl | rfl
          · exact .inl ⟨rfl, rfl⟩
          · exact .inr (.inl ⟨rfl, rfl⟩)
        · rw [hm, mx_com (by exact job)]
          show (if (3 : Int) = 0 then 60 else if (3 : Int) = 1 then 50 - 2 * (x.i + 1) else if (3 : Int) = 2 then 49 - 2 * (x.i + 1) else if (3 : Int) = 3 then (if (startB x.ck).s = 0 then 41 else 40) else _) < _
          rw [if_neg (by decide), if_neg (by decide), if_neg (by decide), if_pos rfl]
          split <;> omega
      · rw [stC2more st hrp hok hi]
        refine .on _ _ (.lk ⟨⟨b.m, b.th, b.ckk, b.top, b.mr, b.mw, b.wt, b.alive, b.stamp, b.ws, b.rs⟩, job, cx.phased, cx.rows, hold, ?_, cx.ne⟩ ws sure ?_ ?_ (.inl rfl) ?_) rfl ?_ rfl rfl
        · show (x.old ++ [x.pre]).length ≤ x.rows.length
          rw [hlen]; omega
        · show x.i + 1 = (x.old ++ [x.pre]).length
          rw [hlen, xi]
        · show (x.old ++ [x.pre]).length < x.rows.length
          rw [hlen]; omega
        · show Mem0 _ 0 wv (x.rows.take (x.old ++ [x.pre]).length) [] zeroD 2
          rw [hlen]; exact hmem
        · rw [hm, mx_com (by exact job)]
          show (if (1 : Int) = 0 then 60 else if (1 : Int) = 1 then 50 - 2 * (x.i + 1) else _) < _
          rw [if_neg (by decide), if_pos rfl]
          omega
  | bp cx ws sure full st mem bump =>
    have b := cx.b
    have hhas : s.has 0 := mem.has (by decide) (by decide)
    have hm : 40 ≤ mx x := by
      rw [mx_com job, if_neg (by rw [st]; decide), if_neg (by rw [st]; decide), if_neg (by rw [st]; decide), if_pos st]
      split <;> omega
    -- the clock is one; what follows
    have go : ∀ (bb : BD) (s2 : MS), bumpF x.m s x.bump = (bb, s2) → bb.s = 9 → bb.p = 1 → Mem0 s2 1 wv x.rows [] zeroD 2 → StepX ck wt wv x (stCommit s x) := fun bb s2 hb h9 hp hmem => by
      rw [stC3 st hb h9 (by rw [b.top, hp]; decide)]
      by_cases h5 : (bb.k = 1 ∧ bb.p = wrap64 (x.stamp + 1)) ∨ x.rs = []
      · rw [if_pos h5]
        exact decide_x hw ⟨⟨b.m, b.th, b.ckk, b.top, b.mr, b.mw, b.wt, b.alive, b.stamp, b.ws, b.rs⟩, job, cx.phased, cx.rows, cx.old, cx.le, cx.ne⟩ sure full rfl rfl (.inr ⟨ws, hp, hmem⟩) job (by omega) rfl rfl
      · rw [if_neg h5, tell_four (by show (4 : Int) ≠ 5; decide)]
        have hrs : x.rs ≠ [] := fun e => h5 (.inr e)
        refine .on _ _ (.ckd ⟨⟨b.m, b.th, b.ckk, b.top, b.mr, b.mw, b.wt, b.alive, b.stamp, b.ws, b.rs⟩, job, cx.phased, cx.rows, cx.old, cx.le, cx.ne⟩ ws sure full rfl hp (List.length_pos_iff.2 hrs) hmem) rfl ?_ rfl rfl
        rw [mx_com (by exact job)]
        show (if (4 : Int) = 0 then 60 else if (4 : Int) = 1 then _ else if (4 : Int) = 2 then _ else if (4 : Int) = 3 then _ else if (4 : Int) = 4 then 38 - 0 else _) < _
        rw [if_neg (by decide), if_neg (by decide), if_neg (by decide), if_neg (by decide), if_pos rfl]
        omega
    rcases bump with ⟨hc, hb⟩ | ⟨hc, hb⟩ | ⟨hc, hb⟩
    · have hb1 : bumpF x.m s x.bump = (⟨1, 9, 0, wrap64 (s.vAt 0 + 1)⟩, s.added 0 1) := by rw [b.m, hb]; exact bump1
      rw [mem.clk, show wrap64 (0 + 1) = 1 by unfold wrap64; omega] at hb1
      exact go _ _ hb1 rfl rfl (mem.clock 1 (len_added _ _ _) (fun q => by rw [vq_added hhas, mem.clk, show wrap64 (0 + 1) = 1 by unfold wrap64; omega]))
    · have hb1 : bumpF x.m s x.bump = (⟨2, 1, s.vAt 0, 0⟩, s.loaded 0) := by rw [b.m, hb]; exact bump2
      rw [mem.clk] at hb1
      have hm1 : mx x = 41 := by
        rw [mx_com job, if_neg (by rw [st]; decide), if_neg (by rw [st]; decide), if_neg (by rw [st]; decide), if_pos st, hb]
        rfl
      rw [stC3more st hb1 (show (1 : Int) ≠ 9 by decide)]
      refine .on _ _ (.bp ⟨⟨b.m, b.th, b.ckk, b.top, b.mr, b.mw, b.wt, b.alive, b.stamp, b.ws, b.rs⟩, job, cx.phased, cx.rows, cx.old, cx.le, cx.ne⟩ ws sure full st (mem.load _) (.inr (.inr ⟨hc, rfl⟩))) rfl ?_ rfl rfl
      rw [hm1, mx_com (by exact job)]
      show (if x.st = 0 then 60 else if x.st = 1 then 50 - 2 * x.i else if x.st = 2 then 49 - 2 * x.i else if x.st = 3 then (if (1 : Int) = 0 then 41 else 40) else _) < 41
      rw [if_neg (by rw [st]; decide), if_neg (by rw [st]; decide), if_neg (by rw [st]; decide), if_pos st]
      decide
    · have hb1 : bumpF x.m s x.bump = (if s.okAt 0 0 = true then ⟨2, 9, 0, wrap64 (0 + 1)⟩ else ⟨2, 9, 0, s.vAt 0⟩, s.swapped 0 0 (wrap64 (0 + 1))) := by rw [b.m, hb]; exact bump3
      rw [ok_iff hhas, mem.clk, if_pos (by simp), show wrap64 (0 + 1) = 1 by unfold wrap64; omega] at hb1
      refine go _ _ hb1 rfl rfl (mem.clock 1 (len_swapped _ _ _ _) (fun q => ?_))
      rw [vq_swap hhas, mem.clk]
      by_cases hq : q = 0
      · rw [if_pos ⟨rfl, hq⟩, if_pos hq]
      · rw [if_neg (fun h => hq h.2), if_neg hq]
  | ckd cx ws sure full st made lt mem =>
    have b := cx.b
    have hm : mx x = 38 - x.i := by rw [mx_com job, if_neg (by rw [st]; decide), if_neg (by rw [st]; decide), if_neg (by rw [st]; decide), if_neg (by rw [st]; decide), if_pos st]
    have hr8 := b.rs.1
    obtain ⟨k, hk, hrow⟩ := b.rs.2 x.rs[x.i] (List.getElem_mem lt)
    have hrp : x.stripeP (x.rs.getD x.i (0, 0)).1 = 2 + (k : Int) := by
      unfold TX.stripeP
      rw [b.m, List.getD_eq_getElem?_getD, List.getElem?_eq_getElem lt]
      show mT.at_ 2 x.rs[x.i].1 0 = _
      rw [hrow]
      exact mT_stripe hk
    have hword := mem.str k hk
    have hh : ¬ (0 ≤ holF (s.vAt (2 + (k : Int))) ∧ holF (s.vAt (2 + (k : Int))) ≠ x.th) := by
      rw [hword, b.th]
      by_cases hx : (k : Int) ∈ x.rows
      · rw [if_pos hx]; decide
      · rw [if_neg hx, if_neg (by simp)]; decide
    have hv : ¬ x.stamp < verF (s.vAt (2 + (k : Int))) := by
      rw [hword, b.stamp]
      by_cases hx : (k : Int) ∈ x.rows
      · rw [if_pos hx]; decide
      · rw [if_neg hx, if_neg (by simp)]; decide
    by_cases hi : x.i + 1 < x.rs.length
    · rw [stC4more st hrp hh hv hi]
      refine .on _ _ (.ckd ⟨⟨b.m, b.th, b.ckk, b.top, b.mr, b.mw, b.wt, b.alive, b.stamp, b.ws, b.rs⟩, job, cx.phased, cx.rows, cx.old, cx.le, cx.ne⟩ ws sure full st made hi (mem.load _)) rfl ?_ rfl rfl
      rw [hm, mx_com (by exact job)]
      show (if x.st = 0 then 60 else if x.st = 1 then _ else if x.st = 2 then _ else if x.st = 3 then _ else if x.st = 4 then 38 - (x.i + 1) else _) < _
      rw [if_neg (by rw [st]; decide), if_neg (by rw [st]; decide), if_neg (by rw [st]; decide), if_neg (by rw [st]; decide), if_pos st]
      omega
    · rw [stC4end st hrp hh hv hi]
      exact decide_x hw ⟨⟨b.m, b.th, b.ckk, b.top, b.mr, b.mw, b.wt, b.alive, b.stamp, b.ws, b.rs⟩, job, cx.phased, cx.rows, cx.old, cx.le, cx.ne⟩ sure full rfl rfl (.inr ⟨ws, made, mem.load _⟩) job (by omega) rfl rfl
  | wt cx sure full st hw' xi mem =>
    have b := cx.b
    have hm : mx x = 29 := by rw [mx_com job, if_neg (by rw [st]; decide), if_neg (by rw [st]; decide), if_neg (by rw [st]; decide), if_neg (by rw [st]; decide), if_neg (by rw [st]; decide), if_pos st]
    rw [stC5 st, watch_x xi (by rw [b.wt, hw'])]
    by_cases h9 : s.vAt 9 ≠ 0
    · rw [if_pos h9, if_pos (show (2 : Int) = 2 from rfl), abort_busy cx.phased]
      have hwv : wv ≠ 0 := by
        rcases mem with ⟨_, _, h3⟩ | ⟨_, _, h3⟩
        · rw [← h3.wd]; exact h9
        · rw [← h3.wd]; exact h9
      refine .undo _ _ ⟨b.m, b.th, rfl, rfl, cx.phased, rfl, rfl, cx.rows, cx.old, cx.le, Nat.zero_le _, ?_⟩ hwv
      show ∃ c, Mem0 _ c wv ((x.rows.take x.old.length).drop 0) [] zeroD 2
      rw [full, List.take_length, List.drop_zero]
      rcases mem with ⟨_, h2, h3⟩ | ⟨_, _, h3⟩
      · exact ⟨_, by rw [h2]; exact h3.load _⟩
      · exact ⟨_, h3.load _⟩
    · rw [if_neg h9, if_neg (show ¬ ((1 : Int) = 2) by decide)]
      show StepX ck wt wv x (0, ({ x with i := 1 } : TX).tell, s.loaded 9)
      rw [tell_last (x := { x with i := 1 }) st rfl (by show x.wt = _; rw [b.wt, hw'])]
      by_cases hy : x.ws = []
      · have hm0 := mem.resolve_right (fun h => h.1 hy)
        refine .on _ _ (.en ⟨b.m, b.th, b.ckk, b.top, b.mr, b.mw, b.wt, b.alive, b.stamp, b.ws, b.rs⟩ rfl job (by show (if x.ws = [] then 8 else 6) = (8 : Int); rw [if_pos hy]) (.inl ⟨hy, hm0.2.2.load _⟩)) rfl ?_ rfl rfl
        rw [hm, mx_com (by exact job)]
        simp only [hy, if_true]
        simp
      · have hm1 := mem.resolve_left (fun h => hy h.1)
        refine .on _ _ (.wr ⟨⟨b.m, b.th, b.ckk, b.top, b.mr, b.mw, b.wt, b.alive, b.stamp, b.ws, b.rs⟩, job, cx.phased, cx.rows, cx.old, cx.le, cx.ne⟩ rfl (by show (if x.ws = [] then 8 else 6) = (6 : Int); rw [if_neg hy]) hm1.2.1 (List.length_pos_iff.2 hy) (hm1.2.2.load _)) rfl ?_ rfl rfl
        rw [hm, mx_com (by exact job)]
        simp only [hy, if_false]
        simp
  | wr cx sure st made lt mem =>
    have b := cx.b
    have hws : x.ws ≠ [] := fun e => by rw [e] at lt; exact absurd lt (Nat.not_lt_zero _)
    have hl4 := b.ws.len
    have hm : mx x = 28 - x.i := by rw [mx_com job, if_neg (by rw [st]; decide), if_neg (by rw [st]; decide), if_neg (by rw [st]; decide), if_neg (by rw [st]; decide), if_neg (by rw [st]; decide), if_neg (by rw [st]; decide), if_pos st]
    obtain ⟨d, hd, hp⟩ := b.ws.one x.ws[x.i] (List.getElem_mem lt)
    have hwi : x.ws[x.i]? = some (dataP d, x.ws[x.i].2) := by rw [List.getElem?_eq_getElem lt, ← hp]
    have hg : x.ws.getD x.i (0, 0) = (dataP d, x.ws[x.i].2) := by rw [List.getD_eq_getElem?_getD, hwi]; rfl
    have hmem := mem.data x.ws[x.i].2 hd (datW (x.ws.take (x.i + 1))) (datW_snoc b.ws hd hwi)
    by_cases hi : x.i + 1 = x.ws.length
    · rw [stC6last st hi, hg]
      rw [hi, List.take_length] at hmem
      refine .on _ _ (.fr ⟨⟨b.m, b.th, b.ckk, b.top, b.mr, b.mw, b.wt, b.alive, b.stamp, b.ws, b.rs⟩, job, cx.phased, cx.rows, cx.old, cx.le, cx.ne⟩ hws sure rfl made ?_ ?_) rfl ?_ rfl rfl
      · exact List.length_pos_iff.2 (cx.ne hws)
      · exact hmem
      · rw [hm, mx_com (by exact job)]
        show (if (7 : Int) = 0 then 60 else if (7 : Int) = 1 then _ else if (7 : Int) = 2 then _ else if (7 : Int) = 3 then _ else if (7 : Int) = 4 then _ else if (7 : Int) = 5 then _ else if (7 : Int) = 6 then _ else if (7 : Int) = 7 then 20 - 0 else _) < _
        rw [if_neg (by decide), if_neg (by decide), if_neg (by decide), if_neg (by decide), if_neg (by decide), if_neg (by decide), if_neg (by decide), if_pos rfl]
        omega
    · rw [stC6more st hi, hg]
      refine .on _ _ (.wr ⟨⟨b.m, b.th, b.ckk, b.top, b.mr, b.mw, b.wt, b.alive, b.stamp, b.ws, b.rs⟩, job, cx.phased, cx.rows, cx.old, cx.le, cx.ne⟩ sure st made (by show x.i + 1 < x.ws.length; omega) hmem) rfl ?_ rfl rfl
      rw [hm, mx_com (by exact job)]
      show (if x.st = 0 then 60 else if x.st = 1 then _ else if x.st = 2 then _ else if x.st = 3 then _ else if x.st = 4 then _ else if x.st = 5 then _ else if x.st = 6 then 28 - (x.i + 1) else _) < _
      rw [if_neg (by rw [st]; decide), if_neg (by rw [st]; decide), if_neg (by rw [st]; decide), if_neg (by rw [st]; decide), if_neg (by rw [st]; decide), if_neg (by rw [st]; decide), if_pos st]
      omega
  | fr cx ws sure st made lt mem =>
    have b := cx.b
    have h3 := rows_le cx.rows
    have hm : mx x = 20 - x.i := by rw [mx_com job, if_neg (by rw [st]; decide), if_neg (by rw [st]; decide), if_neg (by rw [st]; decide), if_neg (by rw [st]; decide), if_neg (by rw [st]; decide), if_neg (by rw [st]; decide), if_neg (by rw [st]; decide), if_pos st]
    obtain ⟨k, hk, hrow⟩ := cx.rows.at lt
    have hrp : x.stripeP (x.rows.getD x.i 0) = 2 + (k : Int) := row_at b.m hk hrow
    have hhas : s.has (2 + (k : Int)) := mem.has (by omega) (by omega)
    have hfv : freeF x.made = 16 := by rw [made]; unfold freeF wrap64; omega
    have key := heldL_drop cx.rows.nd hrow
    have hd : ∀ j : Nat, (j : Int) ∈ x.rows.drop (x.i + 1) ↔ j ≠ k ∧ (j : Int) ∈ x.rows.drop x.i := fun j => by
      have := congrFun key j
      unfold fset heldL at this
      by_cases ej : j = k
      · subst ej; simp at this; simp [this]
      · rw [if_neg ej, decide_eq_decide] at this
        rw [← this]
        simp [ej]
    have htake : x.rows.take (x.i + 1) = x.rows.take x.i ++ [(k : Int)] := by
      obtain ⟨hl, he⟩ := List.getElem?_eq_some_iff.1 hrow
      rw [List.take_succ_eq_append_getElem hl, he]
    have hmem : Mem0 (s.stored (2 + (k : Int)) (freeF x.made)) 1 wv (x.rows.drop (x.i + 1)) (x.rows.take (x.i + 1)) (datW x.ws) 2 := by
      refine mem.stripe 16 _ _ (len_stored _ _ _) (fun q => by rw [hfv]; exact vq_stored hhas _ q) hk ?_ (fun j hj => ?_) (fun j hj => ?_)
      · rw [if_neg (fun hx => ((hd k).1 hx).1 rfl), if_pos (by rw [htake]; simp)]
      · rw [hd j]; simp [hj]
      · rw [htake]; simp; omega
    by_cases hi : x.i + 1 = x.rows.length
    · rw [stC7last st hrp hi]
      have hmem2 := hmem
      rw [hi, List.drop_length, List.take_length] at hmem2
      refine .on _ _ (.en ⟨b.m, b.th, b.ckk, b.top, b.mr, b.mw, b.wt, b.alive, b.stamp, b.ws, b.rs⟩ sure job rfl (.inr ⟨ws, made, hmem2⟩)) rfl ?_ rfl rfl
      rw [hm, mx_com (by exact job)]
      show (if (8 : Int) = 0 then 60 else if (8 : Int) = 1 then _ else if (8 : Int) = 2 then _ else if (8 : Int) = 3 then _ else if (8 : Int) = 4 then _ else if (8 : Int) = 5 then _ else if (8 : Int) = 6 then _ else if (8 : Int) = 7 then _ else 10) < _
      rw [if_neg (by decide), if_neg (by decide), if_neg (by decide), if_neg (by decide), if_neg (by decide), if_neg (by decide), if_neg (by decide), if_neg (by decide)]
      omega
    · rw [stC7more st hrp hi]
      refine .on _ _ (.fr ⟨⟨b.m, b.th, b.ckk, b.top, b.mr, b.mw, b.wt, b.alive, b.stamp, b.ws, b.rs⟩, job, cx.phased, cx.rows, cx.old, cx.le, cx.ne⟩ ws sure st made (by show x.i + 1 < x.rows.length; omega) hmem) rfl ?_ rfl rfl
      rw [hm, mx_com (by exact job)]
      show (if x.st = 0 then 60 else if x.st = 1 then _ else if x.st = 2 then _ else if x.st = 3 then _ else if x.st = 4 then _ else if x.st = 5 then _ else if x.st = 6 then _ else if x.st = 7 then 20 - (x.i + 1) else _) < _
      rw [if_neg (by rw [st]; decide), if_neg (by rw [st]; decide), if_neg (by rw [st]; decide), if_neg (by rw [st]; decide), if_neg (by rw [st]; decide), if_neg (by rw [st]; decide), if_neg (by rw [st]; decide), if_pos st]
      omega
  | en b sure j st mem =>
    rw [stC8 st, b.phase]
    refine .done _ _ ⟨rfl, rfl, sure, b.ws, ?_⟩ job rfl
    rcases mem with ⟨hy, h1⟩ | ⟨hy, hmd, h1⟩
    · exact .inl ⟨hy, h1.phase 0⟩
    · refine .inr ⟨hy, hmd, ?_, _, h1.phase 0⟩
      show (if x.ws = [] then x.stamp else x.made) = 1
      rw [if_neg hy, hmd]

end Go.Proofs.Ytjfinnjmcnjciaa

namespace Go.Proofs.Ytjfinnjmcnjciaa
open Go.RowKit

theorem WsOk.put {ws : List Wd} (h : WsOk ws) {d : Nat} (hd : d < 4) (v : Int) (hl : ws.length < 8) : WsOk (wputL 32 ws (dataP d) v) ∧ wputB 32 ws (dataP d) = true ∧ (wputL 32 ws (dataP d) v).length ≤ ws.length + 1 := by
  have h0 : 0 ≤ dataP d := by unfold dataP; omega
  cases hh : hasL ws (dataP d) with
  | true =>
    rw [wputL_there v h0 hh, wputB_there h0 hh]
    refine ⟨⟨fun p hp => ?_, by rw [updL_keys]; exact h.nd, by rw [updL_len]; exact h.len⟩, rfl, by rw [updL_len]; omega⟩
    have : p.1 ∈ (updL ws (dataP d) v).map fun p => p.1 := List.mem_map.2 ⟨p, hp, rfl⟩
    rw [updL_keys] at this
    obtain ⟨q, hq, e⟩ := List.mem_map.1 this
    rw [← e]
    exact h.one q hq
  | false =>
    rw [wputL_new v h0 hh (by omega), wputB_new h0 hh]
    refine ⟨⟨fun p hp => ?_, ?_, by rw [List.length_append, List.length_singleton]; omega⟩, by simp; omega, by rw [List.length_append]; simp⟩
    · rcases List.mem_append.1 hp with hp | hp
      · exact h.one p hp
      · simp at hp; subst hp; exact ⟨d, hd, rfl⟩
    · rw [List.map_append, List.nodup_append]
      refine ⟨h.nd, by simp, fun a ha b hb e => ?_⟩
      simp at hb
      subst hb
      obtain ⟨p, hp, e2⟩ := List.mem_map.1 ha
      have : hasL ws (dataP d) = true := List.any_eq_true.2 ⟨p, hp, by simp [e2, e]⟩
      rw [hh] at this
      cases this

structure SA (ck : Int) (wt : List Wd) (wv : Int) (s : MS) (u : RU) : Prop where
  sx : SX ck wt wv s u.x
  fin : u.fin = 0
  i1 : 1 ≤ u.i
  i2 : u.i ≤ u.plan.length + 1
  pl : u.plan.length ≤ 8 ∧ ∀ o ∈ u.plan, o.2.1 < 4
  wl : u.x.ws.length + 1 ≤ u.i
  rl : u.x.rs.length + 1 ≤ u.i
  bz : u.busy = true ∧ (u.x.job = 2 ∧ u.i ≤ u.plan.length ∧ (u.plan.getD (u.i - 1) (false, 0, 0)).1 = false ∨ u.x.job = 4 ∧ u.i = u.plan.length + 1) ∨ u.busy = false ∧ u.x.job = 0
def muS (u : RU) : Nat :=
  if u.fin ≠ 0 then 0
  else if u.busy = false then 12 * (u.plan.length + 1 - u.i) + 70
  else if u.x.job = 2 then 12 * (u.plan.length + 1 - u.i) + 58 + mx u.x
  else if u.x.job = 5 then 1 + (u.x.old.length - u.x.i)
  else mx u.x
theorem muS_fin {u : RU} (h : u.fin ≠ 0) : muS u = 0 := if_pos h
theorem muS_btw {u : RU} (h : u.fin = 0) (b : u.busy = false) : muS u = 12 * (u.plan.length + 1 - u.i) + 70 := by unfold muS; rw [if_neg (by rw [h]; decide), if_pos b]
theorem muS_rd {u : RU} (h : u.fin = 0) (b : u.busy = true) (j : u.x.job = 2) : muS u = 12 * (u.plan.length + 1 - u.i) + 58 + mx u.x := by unfold muS; rw [if_neg (by rw [h]; decide), if_neg (by rw [b]; decide), if_pos j]
theorem muS_un {u : RU} (h : u.fin = 0) (b : u.busy = true) (j : u.x.job = 5) : muS u = 1 + (u.x.old.length - u.x.i) := by unfold muS; rw [if_neg (by rw [h]; decide), if_neg (by rw [b]; decide), if_neg (by rw [j]; decide), if_pos j]
theorem muS_com {u : RU} (h : u.fin = 0) (b : u.busy = true) (j : u.x.job = 4) : muS u = mx u.x := by unfold muS; rw [if_neg (by rw [h]; decide), if_neg (by rw [b]; decide), if_neg (by rw [j]; decide), if_neg (by rw [j]; decide)]

section
variable {ck wv : Int} {wt : List Wd} {s : MS} {u : RU}
theorem SX.free {x : TX} (h : SX ck wt wv s x) (j : x.job = 0) : XB ck wt x ∧ x.sure = false ∧ x.phased = false ∧ x.old = [] ∧ x.rows = [] ∧ Mem0 s 0 wv [] [] zeroD 0 := by
  cases h with
  | idle b sure phased job old rw0 mem => exact ⟨b, sure, phased, old, rw0, mem⟩
  | rd d b sure phased job => rw [job] at j; cases j
  | c0 b sure phased job => rw [job] at j; cases j
  | lk cx => rw [cx.job] at j; cases j
  | bp cx => rw [cx.job] at j; cases j
  | ckd cx => rw [cx.job] at j; cases j
  | wt cx => rw [cx.job] at j; cases j
  | wr cx => rw [cx.job] at j; cases j
  | fr cx => rw [cx.job] at j; cases j
  | en b sure job => rw [job] at j; cases j
theorem SX.b {x : TX} (h : SX ck wt wv s x) : XB ck wt x := by
  cases h with
  | idle b => exact b
  | rd d b => exact b
  | c0 b => exact b
  | lk cx => exact cx.b
  | bp cx => exact cx.b
  | ckd cx => exact cx.b
  | wt cx => exact cx.b
  | wr cx => exact cx.b
  | fr cx => exact cx.b
  | en b => exact b

/-- The next thing of its plan is asked. -/
theorem SA.ask (h : SA ck wt wv s u) (hb : u.busy = false) : ∃ v, askR u = v ∧ SA ck wt wv s v ∧ v.plan = u.plan ∧ (v.busy = false ∧ v.i = u.i + 1 ∨ v.busy = true ∧ v.i = u.i ∧ (v.x.job = 2 ∧ v.x.st = 0 ∨ v.x.job = 4 ∧ v.x.st = 0)) := by
  have hj : u.x.job = 0 := by
    rcases h.bz with ⟨hb', _⟩ | ⟨_, hj⟩
    · rw [hb] at hb'; cases hb'
    · exact hj
  obtain ⟨b, sure, phased, old, rw0, mem⟩ := h.sx.free hj
  have i1 := h.i1
  have i2 := h.i2
  have pl := h.pl.1
  have wl := h.wl
  have rl := h.rl
  by_cases hi : u.plan.length < u.i
  · have e := askR_commit (u := u) (by omega) hi ⟨b.alive, hj⟩
    refine ⟨_, e, ⟨.c0 ⟨b.m, b.th, b.ckk, b.top, b.mr, b.mw, b.wt, b.alive, b.stamp, b.ws, b.rs⟩ sure phased rfl old rw0 mem rfl, h.fin, i1, i2, h.pl, wl, rl, .inl ⟨rfl, .inr ⟨rfl, by show u.i = u.plan.length + 1; omega⟩⟩⟩, rfl, .inr ⟨rfl, rfl, .inr ⟨rfl, rfl⟩⟩⟩
  · have hlt : u.i - 1 < u.plan.length := by omega
    obtain ⟨⟨w, d, z⟩, ho⟩ : ∃ o, u.plan.getD (u.i - 1) (false, 0, 0) = o := ⟨_, rfl⟩
    have hd : d < 4 := by
      have hm : (w, d, z) ∈ u.plan := by
        rw [List.getD_eq_getElem?_getD, List.getElem?_eq_getElem hlt] at ho
        have ho : u.plan[u.i - 1] = (w, d, z) := ho
        rw [← ho]
        exact List.getElem_mem hlt
      exact h.pl.2 _ hm
    have hin : 0 ≤ dataP d ∧ dataP d < u.x.m.size := by rw [b.m, mT_size]; unfold dataP; omega
    cases w with
    | true =>
      obtain ⟨p1, p2, p3⟩ := b.ws.put hd (valR u.read d z) (by omega)
      have hw : txWrite u.x (dataP d) (valR u.read d z) = (1, { u.x with ws := wputL u.x.mw u.x.ws (dataP d) (valR u.read d z) }) := txWrite_ok ⟨b.alive, hj⟩ ⟨hin.1, hin.2, by rw [b.mw]; exact p2⟩
      rw [b.mw] at hw
      have e := askR_write (u := u) (d := d) (z := z) (by omega) hi ho hw
      refine ⟨_, e, ⟨.idle ⟨b.m, b.th, b.ckk, b.top, b.mr, (by first | exact b.mw | rfl), b.wt, b.alive, b.stamp, p1, b.rs⟩ sure phased hj old rw0 mem, h.fin, ?_, ?_, h.pl, ?_, ?_, .inr ⟨rfl, hj⟩⟩, rfl, .inl ⟨rfl, rfl⟩⟩
      · show 1 ≤ u.i + 1; omega
      · show u.i + 1 ≤ u.plan.length + 1; omega
      · show (wputL 32 u.x.ws (dataP d) (valR u.read d z)).length + 1 ≤ u.i + 1; omega
      · show u.x.rs.length + 1 ≤ u.i + 1; omega
    | false =>
      cases hh : hasL u.x.ws (dataP d) with
      | true =>
        have e1 : askC u = (1, { u.x with st := 0, i := 0, asked := if mayL u.x.ws (dataP d) = true then u.x.asked + 1 else u.x.asked, val := valL u.x.ws (dataP d), job := 0 }) := by
          unfold askC
          rw [if_neg (show ¬ u.i = 0 by omega), if_neg hi, ho, if_pos rfl]
          unfold txRead
          rw [if_pos ⟨b.alive, hj⟩, if_pos hin, if_pos hh]
        have e : askR u = doneR { u with x := { u.x with st := 0, i := 0, asked := if mayL u.x.ws (dataP d) = true then u.x.asked + 1 else u.x.asked, val := valL u.x.ws (dataP d), job := 0 }, busy := decide ((1 : Int) = 0) } := by
          unfold askR tookC
          rw [e1]
          rfl
        have e := e.trans (doneR_more (d := d) (z := z) (by exact hi) (by show 0 < u.i; omega) (by exact ho))
        refine ⟨_, e, ⟨.idle ⟨b.m, b.th, b.ckk, b.top, b.mr, b.mw, b.wt, b.alive, b.stamp, b.ws, b.rs⟩ sure phased rfl old rw0 mem, h.fin, ?_, ?_, h.pl, ?_, ?_, .inr ⟨rfl, rfl⟩⟩, rfl, .inl ⟨rfl, rfl⟩⟩
        · show 1 ≤ u.i + 1; omega
        · show u.i + 1 ≤ u.plan.length + 1; omega
        · show u.x.ws.length + 1 ≤ u.i + 1; omega
        · show u.x.rs.length + 1 ≤ u.i + 1; omega
      | false =>
        have e1 : askC u = (0, { u.x with job := 2, st := 0, i := 0, asked := if mayL u.x.ws (dataP d) = true then u.x.asked + 1 else u.x.asked, at_ := dataP d }) := by
          unfold askC
          rw [if_neg (show ¬ u.i = 0 by omega), if_neg hi, ho, if_pos rfl]
          unfold txRead
          rw [if_pos ⟨b.alive, hj⟩, if_pos hin, if_neg (by rw [hh]; decide), if_pos (show roomL u.x.mr u.x.rs (u.x.m.hash (dataP d)) = true by
            rw [b.mr]
            unfold roomL
            rw [decide_eq_true (show u.x.rs.length < 32 by omega), Bool.or_true])]
        have e : askR u = { u with x := { u.x with job := 2, st := 0, i := 0, asked := if mayL u.x.ws (dataP d) = true then u.x.asked + 1 else u.x.asked, at_ := dataP d }, busy := true } := by
          unfold askR tookC
          rw [e1]
          rfl
        refine ⟨_, e, ⟨.rd d ⟨b.m, b.th, b.ckk, b.top, b.mr, b.mw, b.wt, b.alive, b.stamp, b.ws, b.rs⟩ sure phased rfl old rw0 mem hd rfl rfl ?_ (.inl rfl), h.fin, i1, i2, h.pl, wl, rl, .inl ⟨rfl, .inl ⟨rfl, by show u.i ≤ u.plan.length; omega, by show (u.plan.getD (u.i - 1) (false, 0, 0)).1 = false; rw [ho]⟩⟩⟩, rfl, .inr ⟨rfl, rfl, .inl ⟨rfl, rfl⟩⟩⟩
        show u.x.rs.length < 8
        omega

theorem SA.asks : ∀ (n : Nat) (u : RU), SA ck wt wv s u → u.busy = false → u.plan.length + 1 - u.i < n → ∃ v, asksR n u = v ∧ SA ck wt wv s v ∧ v.busy = true ∧ v.plan = u.plan ∧ muS v < muS u
  | 0, u, _, _, hn => absurd hn (Nat.not_lt_zero _)
  | n + 1, u, h, hb, hn => by
    obtain ⟨v, e, hv, hp, hc⟩ := h.ask hb
    rw [asksR_go hb h.fin, e]
    have i2 := h.i2
    rw [muS_btw h.fin hb]
    rcases hc with ⟨hvb, hvi⟩ | ⟨hvb, hvi, hj⟩
    · by_cases hlast : u.plan.length < u.i
      · have := hv.i2
        rw [hp, hvi] at this
        omega
      · obtain ⟨v2, e2, hv2, hb2, hp2, hm2⟩ := SA.asks n v hv hvb (by rw [hp, hvi]; omega)
        refine ⟨v2, e2, hv2, hb2, hp2.trans hp, ?_⟩
        rw [muS_btw hv.fin hvb, hp, hvi] at hm2
        omega
    · refine ⟨v, asksR_busy n hvb, hv, hvb, hp, ?_⟩
      rcases hj with ⟨j, st⟩ | ⟨j, st⟩
      · rw [muS_rd hv.fin hvb j, mx_rd j, st, hp, hvi]
        show 12 * (u.plan.length + 1 - u.i) + 58 + 10 < _
        omega
      · rw [muS_com hv.fin hvb j, mx_com j, if_pos st]
        omega
end

end Go.Proofs.Ytjfinnjmcnjciaa

namespace Go.Proofs.Ytjfinnjmcnjciaa
open Go.RowKit

/-- What a pick comes to. -/
inductive NextS (ck : Int) (wt : List Wd) (wv : Int) (u : RU) : RU × MS → Prop
  | on (u' : RU) (s' : MS) (h : SA ck wt wv s' u') (plan : u'.plan = u.plan) (less : muS u' < muS u) : NextS ck wt wv u (u', s')
  | undo (u' : RU) (s' : MS) (h : UX 3 wv s' u'.x) (fin : u'.fin = 0) (busy : u'.busy = true) (hw : wv ≠ 0) (less : muS u' < muS u) : NextS ck wt wv u (u', s')
  | done (u' : RU) (s' : MS) (h : EX wv s' u'.x) (fin : u'.fin = 1) : NextS ck wt wv u (u', s')
  | dead (u' : RU) (s' : MS) (h : DX 3 wv s' u'.x) (fin : u'.fin = 2) (hw : wv ≠ 0) : NextS ck wt wv u (u', s')

section
variable {ck wv : Int} {wt : List Wd} {s : MS} {u : RU}
theorem UX.len {c : Int} {x : TX} (h : UX c wv s x) : x.old.length ≤ 3 := Nat.le_trans h.le (rows_le h.rows)
theorem SA.step (hw : WtOk wt) (hck : ck = 1 ∨ ck = 2) (h : SA ck wt wv s u) (hb : u.busy = true) : NextS ck wt wv u (stepR s u, (txStep s u.x).2.2) := by
  have hbz := h.bz.resolve_right (fun hh => by rw [hb] at hh; cases hh.1)
  have i1 := h.i1
  have i2 := h.i2
  have pl := h.pl.1
  have wl := h.wl
  have rl := h.rl
  have key : ∀ r : Int × TX × MS, txStep s u.x = r → StepX ck wt wv u.x r → NextS ck wt wv u (stepR s u, r.2.2) := by
    intro r hr hx
    cases hx with
    | on x' s' hs job less hws hrs =>
      rw [stepR_busy hr]
      have hsa : SA ck wt wv s' { u with x := x' } := ⟨hs, h.fin, i1, i2, h.pl, by show x'.ws.length + 1 ≤ u.i; rw [hws]; exact wl, by show x'.rs.length + 1 ≤ u.i; rw [hrs]; exact rl, .inl ⟨hb, hbz.2.imp (fun hh => ⟨job.trans hh.1, hh.2⟩) (fun hh => ⟨job.trans hh.1, hh.2⟩)⟩⟩
      refine .on _ _ hsa rfl ?_
      rcases hbz.2 with hh | hh
      · rw [muS_rd h.fin hb hh.1, muS_rd (u := { u with x := x' }) h.fin hb (job.trans hh.1)]
        show 12 * (u.plan.length + 1 - u.i) + 58 + mx x' < _
        omega
      · rw [muS_com h.fin hb hh.1, muS_com (u := { u with x := x' }) h.fin hb (job.trans hh.1)]
        exact less
    | undo x' s' hs hwv =>
      rw [stepR_busy hr]
      refine .undo _ _ hs h.fin hb hwv ?_
      rw [muS_un (u := { u with x := x' }) h.fin hb hs.job]
      have h3 := hs.len
      show 1 + (x'.old.length - x'.i) < _
      rcases hbz.2 with hh | hh
      · rw [muS_rd h.fin hb hh.1]
        omega
      · rw [muS_com h.fin hb hh.1, mx_com hh.1]
        have hrun := h.sx
        have hbd : ∀ {n : Nat}, 5 ≤ n → 1 + (x'.old.length - x'.i) < n := fun {n} hn => by omega
        cases hrun with
        | idle b sure phased j => rw [j] at hh; cases hh.1
        | rd d b sure phased j => rw [j] at hh; cases hh.1
        | c0 b sure phased j old rw0 mem st => rw [if_pos st]; omega
        | lk cx ws sure xi lt st mem =>
          have h4 := rows_le cx.rows
          rcases st with st | ⟨st, _⟩
          · rw [if_neg (by rw [st]; decide), if_pos st]; omega
          · rw [if_neg (by rw [st]; decide), if_neg (by rw [st]; decide), if_pos st]; omega
        | bp cx ws sure full st mem bump => rw [if_neg (by rw [st]; decide), if_neg (by rw [st]; decide), if_neg (by rw [st]; decide), if_pos st]; split <;> omega
        | ckd cx ws sure full st made lt mem =>
          have := cx.b.rs.1
          rw [if_neg (by rw [st]; decide), if_neg (by rw [st]; decide), if_neg (by rw [st]; decide), if_neg (by rw [st]; decide), if_pos st]; omega
        | wt cx sure full st hw' xi mem => rw [if_neg (by rw [st]; decide), if_neg (by rw [st]; decide), if_neg (by rw [st]; decide), if_neg (by rw [st]; decide), if_neg (by rw [st]; decide), if_pos st]; omega
        | wr cx sure st made lt mem =>
          have := cx.b.ws.len
          rw [if_neg (by rw [st]; decide), if_neg (by rw [st]; decide), if_neg (by rw [st]; decide), if_neg (by rw [st]; decide), if_neg (by rw [st]; decide), if_neg (by rw [st]; decide), if_pos st]; omega
        | fr cx ws sure st made lt mem =>
          have := rows_le cx.rows
          rw [if_neg (by rw [st]; decide), if_neg (by rw [st]; decide), if_neg (by rw [st]; decide), if_neg (by rw [st]; decide), if_neg (by rw [st]; decide), if_neg (by rw [st]; decide), if_neg (by rw [st]; decide), if_pos st]; omega
        | en b sure j st mem => rw [if_neg (by rw [st]; decide), if_neg (by rw [st]; decide), if_neg (by rw [st]; decide), if_neg (by rw [st]; decide), if_neg (by rw [st]; decide), if_neg (by rw [st]; decide), if_neg (by rw [st]; decide), if_neg (by rw [st]; decide)]; omega
    | dead x' s' hs hwv =>
      rw [stepR_dead hr]
      exact .dead _ _ hs rfl hwv
    | read x' s' hs job job' sure hws hrs =>
      have hh := hbz.2.resolve_right (fun hh => by rw [job] at hh; cases hh.1)
      obtain ⟨⟨w, d, z⟩, ho⟩ : ∃ o, u.plan.getD (u.i - 1) (false, 0, 0) = o := ⟨_, rfl⟩
      have hwf : w = false := by have := hh.2.2; rw [ho] at this; exact this
      subst hwf
      have e := (stepR_done hr).trans (doneR_more (d := d) (z := z) (by show ¬ u.plan.length < u.i; omega) (by show 0 < u.i; omega) (by exact ho))
      rw [e]
      refine .on _ _ ⟨hs, h.fin, ?_, ?_, h.pl, ?_, ?_, .inr ⟨rfl, job'⟩⟩ rfl ?_
      · show 1 ≤ u.i + 1; omega
      · show u.i + 1 ≤ u.plan.length + 1; omega
      · show x'.ws.length + 1 ≤ u.i + 1; rw [hws]; omega
      · show x'.rs.length + 1 ≤ u.i + 1; omega
      · rw [muS_btw (by exact h.fin) rfl, muS_rd h.fin hb job, mx_rd job]
        show 12 * (u.plan.length + 1 - (u.i + 1)) + 70 < _
        have hst : u.x.st.toNat ≤ 3 := by
          have hrun := h.sx
          cases hrun with
          | idle b sure phased j => rw [j] at job; cases job
          | rd d b sure phased j old rw0 mem hd hat xi lt st => rcases st with st | ⟨st, _⟩ | ⟨st, _⟩ | ⟨st, _⟩ <;> rw [st] <;> decide
          | c0 b sure phased j => rw [j] at job; cases job
          | lk cx => rw [cx.job] at job; cases job
          | bp cx => rw [cx.job] at job; cases job
          | ckd cx => rw [cx.job] at job; cases job
          | wt cx => rw [cx.job] at job; cases job
          | wr cx => rw [cx.job] at job; cases job
          | fr cx => rw [cx.job] at job; cases job
          | en b sure j => rw [j] at job; cases job
        omega
    | done x' s' hs job hws =>
      have hh := hbz.2.resolve_left (fun hh => by rw [job] at hh; cases hh.1)
      have e := (stepR_done hr).trans (doneR_end (by show u.plan.length < u.i; omega))
      rw [e]
      exact .done _ _ hs rfl
  refine key _ rfl ?_
  rcases hbz.2 with hh | hh
  · have hrun := h.sx
    cases hrun with
    | rd d b sure phased j old rw0 mem hd hat xi lt st => exact SX.step_rd hw d b sure phased j old rw0 mem hd hat xi lt st
    | idle b sure phased j => rw [j] at hh; cases hh.1
    | c0 b sure phased j => rw [j] at hh; cases hh.1
    | lk cx => rw [cx.job] at hh; cases hh.1
    | bp cx => rw [cx.job] at hh; cases hh.1
    | ckd cx => rw [cx.job] at hh; cases hh.1
    | wt cx => rw [cx.job] at hh; cases hh.1
    | wr cx => rw [cx.job] at hh; cases hh.1
    | fr cx => rw [cx.job] at hh; cases hh.1
    | en b sure j => rw [j] at hh; cases hh.1
  · exact SX.step_com hw hck h.sx hh.1

/-- **Any pick of an attempt that is alone.** -/
theorem SA.next (hw : WtOk wt) (hck : ck = 1 ∨ ck = 2) (h : SA ck wt wv s u) : NextS ck wt wv u (nextR s u) := by
  cases hb : u.busy with
  | true =>
    rw [nextR_busy hb h.fin]
    exact h.step hw hck hb
  | false =>
    obtain ⟨v, e, hv, hvb, hvp, hm⟩ := SA.asks 9 u h hb (by have := h.i1; have := h.pl.1; omega)
    rw [nextR_asks h.fin e hv.fin]
    have := hv.step hw hck hvb
    generalize (stepR s v, (txStep s v.x).2.2) = r at this
    cases this with
    | on u' s' h' plan less => exact .on _ _ h' (plan.trans hvp) (Nat.lt_trans less hm)
    | undo u' s' h' fin busy hwv less => exact .undo _ _ h' fin busy hwv (Nat.lt_trans less hm)
    | done u' s' h' fin => exact .done _ _ h' fin
    | dead u' s' h' fin hwv => exact .dead _ _ h' fin hwv
/-- A pick of one that is being undone. -/
theorem UX.next {c : Int} (h : UX c wv s u.x) (fin : u.fin = 0) (busy : u.busy = true) : (UX c wv (nextR s u).2 (nextR s u).1.x ∧ (nextR s u).1.fin = 0 ∧ (nextR s u).1.busy = true ∧ muS (nextR s u).1 < muS u) ∨ (DX c wv (nextR s u).2 (nextR s u).1.x ∧ (nextR s u).1.fin = 2) := by
  rw [nextR_busy busy fin]
  rcases h.step with ⟨x', s', e, hu, ho, hi, hl⟩ | ⟨x', s', e, hd⟩
  · refine .inl ?_
    show UX c wv (txStep s u.x).2.2 (stepR s u).x ∧ (stepR s u).fin = 0 ∧ (stepR s u).busy = true ∧ muS (stepR s u) < muS u
    rw [stepR_busy e, e]
    refine ⟨hu, fin, busy, ?_⟩
    rw [muS_un fin busy h.job, muS_un (u := { u with x := x' }) fin busy hu.job]
    show 1 + (x'.old.length - x'.i) < _
    rw [ho, hi]
    omega
  · refine .inr ?_
    show DX c wv (txStep s u.x).2.2 (stepR s u).x ∧ (stepR s u).fin = 2
    rw [stepR_dead e, e]
    exact ⟨hd, rfl⟩
/-- It begins. -/
theorem SA.begin {p : Pl} (mem : Mem0 s 0 wv [] [] zeroD 0) (hp : p.length ≤ 8 ∧ ∀ o ∈ p, o.2.1 < 4) : SA ck [] wv (nextR s (RU.new 1 ck p)).2 (nextR s (RU.new 1 ck p)).1 ∧ (nextR s (RU.new 1 ck p)).1.plan = p ∧ muS (nextR s (RU.new 1 ck p)).1 ≤ 166 := by
  rw [nextR_new]
  refine ⟨⟨.idle ⟨rfl, rfl, rfl, rfl, rfl, rfl, rfl, rfl, mem.clk, ⟨(fun _ h => by cases h), List.nodup_nil, Nat.zero_le _⟩, Nat.zero_le _, (fun _ h => by cases h)⟩ rfl rfl rfl rfl rfl (mem.load _), rfl, Nat.le_refl _, by show 1 ≤ p.length + 1; omega, hp, Nat.le_refl _, Nat.le_refl _, .inr ⟨rfl, rfl⟩⟩, rfl, ?_⟩
  rw [muS_btw rfl rfl]
  show 12 * (p.length + 1 - 1) + 70 ≤ 166
  omega
/-- The lock's word is watched. -/
theorem SA.watch (h : SA ck [] wv s u) (hb : u.busy = false) : SA ck [(9, 0)] wv s { u with x := txWatch u.x 9 0 } ∧ muS { u with x := txWatch u.x 9 0 } = muS u := by
  have hj : u.x.job = 0 := by
    rcases h.bz with ⟨hb', _⟩ | ⟨_, hj⟩
    · rw [hb] at hb'; cases hb'
    · exact hj
  obtain ⟨b, sure, phased, old, rw0, mem⟩ := h.sx.free hj
  have e : txWatch u.x 9 0 = { u.x with wt := u.x.wt ++ [(9, 0)] } := by unfold txWatch; rw [if_pos b.alive]
  rw [e, muS_btw h.fin hb, muS_btw (u := { u with x := { u.x with wt := u.x.wt ++ [(9, 0)] } }) h.fin hb]
  exact ⟨⟨.idle ⟨b.m, b.th, b.ckk, b.top, b.mr, b.mw, by show u.x.wt ++ [(9, 0)] = _; rw [b.wt]; rfl, b.alive, b.stamp, b.ws, b.rs⟩ sure phased hj old rw0 mem, h.fin, h.i1, h.i2, h.pl, h.wl, h.rl, .inr ⟨hb, hj⟩⟩, rfl⟩
theorem SA.turned (h : SA ck wt wv s u) (v : Int) : SA ck wt v (s.stored 9 v) u := ⟨h.sx.turned v, h.fin, h.i1, h.i2, h.pl, h.wl, h.rl, h.bz⟩
/-- A kill of one that is alive. -/
theorem SX.kill {x : TX} (h : SX ck wt wv s x) (c : Int) : txKill x c = if x.sure = false then x.abort c else (1, x) := by
  unfold txKill
  by_cases hs : x.sure = false
  · rw [if_pos ⟨h.b.alive, hs⟩, if_pos hs]
  · rw [if_neg (fun hh => hs hh.2), if_neg hs]
end

end Go.Proofs.Ytjfinnjmcnjciaa
