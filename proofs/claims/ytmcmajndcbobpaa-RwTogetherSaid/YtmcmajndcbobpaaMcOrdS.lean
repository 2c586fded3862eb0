/-
  A queue of four hands: what Take and Drop make of it.
-/
import Derived.Test.YtmcmajndcbobpaaMcsE
import Derived.Test.YtmcmajndcbobpaaMcOrdC
namespace Go.Proofs.Ytmcmajndcbobpaa
open Go.RowKit

def gF (z : List Int) (t : Nat) : Int := z.getD (24 + 4 * t) 0
def kF (z : List Int) (t : Nat) : Int := z.getD (25 + 4 * t) 0
def VS.of (s : MS) (hs : Nat → HD) : VS := ⟨fun t => (hs t).s, fun t => (hs t).x, gF s.zs, kF s.zs, s.zs.getD 4 0⟩
theorem VS.eq {v w : VS} (h1 : v.st = w.st) (h2 : v.x = w.x) (h3 : v.g = w.g) (h4 : v.k = w.k) (h5 : v.T = w.T) : v = w := by
  obtain ⟨a, b, c, d, e⟩ := v
  obtain ⟨a', b', c', d', e'⟩ := w
  simp only at h1 h2 h3 h4 h5
  subst h1 h2 h3 h4 h5
  rfl
theorem updW_same {α : Type} (f : Nat → α) (k : Nat) : updW f k (f k) = f := by
  funext j
  by_cases e : j = k
  · rw [e, updW_at]
  · rw [updW_ne e]
theorem of_st (s : MS) (hs : Nat → HD) (t : Nat) (h : HD) : (VS.of s (upd hs t h)).st = updW (fun j => (hs j).s) t h.s := by
  funext j
  show (upd hs t h j).s = _
  by_cases e : j = t
  · rw [e, upd_at, updW_at]
  · rw [upd_ne e, updW_ne e]
theorem of_x (s : MS) (hs : Nat → HD) (t : Nat) (h : HD) : (VS.of s (upd hs t h)).x = updW (fun j => (hs j).x) t h.x := by
  funext j
  show (upd hs t h j).x = _
  by_cases e : j = t
  · rw [e, upd_at, updW_at]
  · rw [upd_ne e, updW_ne e]
theorem gF_setg {z : List Int} (hz : z.length = 48) {t : Nat} (ht : t < 4) (v : Int) : gF (z.set (24 + 4 * t) v) = updW (gF z) t v := by
  funext j
  unfold gF
  by_cases e : j = t
  · rw [e, updW_at, getD_set_same (by omega)]
  · rw [updW_ne e, getD_set_other (by omega)]
theorem kF_setg {z : List Int} {t : Nat} (v : Int) : kF (z.set (24 + 4 * t) v) = kF z := by
  funext j
  unfold kF
  rw [getD_set_other (by omega)]
theorem kF_setk {z : List Int} (hz : z.length = 48) {t : Nat} (ht : t < 4) (v : Int) : kF (z.set (25 + 4 * t) v) = updW (kF z) t v := by
  funext j
  unfold kF
  by_cases e : j = t
  · rw [e, updW_at, getD_set_same (by omega)]
  · rw [updW_ne e, getD_set_other (by omega)]
theorem gF_setk {z : List Int} {t : Nat} (v : Int) : gF (z.set (25 + 4 * t) v) = gF z := by
  funext j
  unfold gF
  rw [getD_set_other (by omega)]
theorem gF_set4 {z : List Int} (v : Int) : gF (z.set 4 v) = gF z := by
  funext j
  unfold gF
  rw [getD_set_other (by omega)]
theorem kF_set4 {z : List Int} (v : Int) : kF (z.set 4 v) = kF z := by
  funext j
  unfold kF
  rw [getD_set_other (by omega)]

theorem gate_at {t : Nat} (ht : t < 4) : mp4.node t 0 0 = ((24 + 4 * t : Nat) : Int) := by rcases four_cases ht with rfl | rfl | rfl | rfl <;> decide
theorem link_at {t : Nat} (ht : t < 4) : mp4.node t 0 1 = ((25 + 4 * t : Nat) : Int) := by rcases four_cases ht with rfl | rfl | rfl | rfl <;> decide
theorem tail_at : mp4.at_ 3 0 0 = ((4 : Nat) : Int) := by decide
theorem id_at {t : Nat} (ht : t < 4) : idF mp4 t 0 = idq t := by rcases four_cases ht with rfl | rfl | rfl | rfl <;> decide
theorem nodeF_at {p : Nat} (hp : p < 4) (part : Int) : nodeF mp4 0 (idq p) part = mp4.node p 0 part := by
  have := nodeF_id (m := mp4) (h := ⟨p, 0, 0, false, 0⟩) ⟨mp4_ok, by simp, by simp; omega, by simp, by simp⟩ part
  simp only [id_at hp] at this
  exact this

theorem stored_n {s : MS} {p : Nat} {v : Int} (h : p < s.zs.length) : (s.stored (p : Int) v).kind = 2 ∧ (s.stored (p : Int) v).steps = wrap64 (s.steps + 1) := by
  have hh : s.has (p : Int) := ⟨by omega, by omega⟩
  simp only [MS.stored, if_pos hh]
  exact ⟨rfl, rfl⟩
theorem loaded_n {s : MS} {p : Nat} (h : p < s.zs.length) : (s.loaded (p : Int)).kind = 1 ∧ (s.loaded (p : Int)).steps = wrap64 (s.steps + 1) := by
  have hh : s.has (p : Int) := ⟨by omega, by omega⟩
  simp only [MS.loaded, if_pos hh]
  exact ⟨rfl, rfl⟩
theorem swapped_y {s : MS} {p : Nat} {o v : Int} (h : p < s.zs.length) (ho : s.zs.getD p 0 = o) : (s.swapped (p : Int) o v).zs = s.zs.set p v ∧ (s.swapped (p : Int) o v).kind = 3 ∧ (s.swapped (p : Int) o v).done = true ∧ (s.swapped (p : Int) o v).steps = wrap64 (s.steps + 1) := by
  have hh : s.has (p : Int) := ⟨by omega, by omega⟩
  simp only [MS.swapped, if_pos hh, Int.toNat_natCast, if_pos ho]
  exact ⟨rfl, rfl, rfl, rfl⟩
theorem swapped_no {s : MS} {p : Nat} {o v : Int} (h : p < s.zs.length) (ho : ¬ s.zs.getD p 0 = o) : (s.swapped (p : Int) o v).zs = s.zs ∧ (s.swapped (p : Int) o v).kind = 3 ∧ (s.swapped (p : Int) o v).done = false ∧ (s.swapped (p : Int) o v).steps = wrap64 (s.steps + 1) := by
  have hh : s.has (p : Int) := ⟨by omega, by omega⟩
  simp only [MS.swapped, if_pos hh, Int.toNat_natCast, if_neg ho]
  exact ⟨rfl, rfl, rfl, rfl⟩

/-- Four hands at a queue: who is in it (q), how often each had it (n), in which order they came (sw) and had it (hd). -/
structure SI (R : Nat) (s : MS) (hs : Nat → HD) (n : Nat → Nat) (q sw hd : List Nat) : Prop where
  len : s.zs.length = 48
  hand : ∀ t, t < 4 → (hs t).t = (t : Int) ∧ (hs t).l = 0
  pi : PI (VS.of s hs) q n R sw hd

section
variable {R : Nat} {s : MS} {hs : Nat → HD} {n : Nat → Nat} {q sw hd : List Nat} {t : Nat}
theorem SI.may (h : SI R s hs n q sw hd) (ht : t < 4) : mayH mp4 (hs t) := by
  obtain ⟨e1, e2⟩ := h.hand t ht
  refine ⟨mp4_ok, ?_, ?_, ?_, ?_⟩ <;> simp only [e1, e2, mp4] <;> omega
theorem SI.up (h : SI R s hs n q sw hd) {g : HD} (h1 : g.t = (hs t).t) (h2 : g.l = (hs t).l) (ht : t < 4) : ∀ j, j < 4 → (upd hs t g j).t = (j : Int) ∧ (upd hs t g j).l = 0 := fun j hj => by
  by_cases e : j = t
  · rw [e, upd_at, h1, h2]; exact h.hand t ht
  · rw [upd_ne e]; exact h.hand j hj
theorem SI.range (h : SI R s hs n q sw hd) (ht : t < 4) : 0 ≤ (hs t).s ∧ (hs t).s ≤ 9 := by
  by_cases hq : t ∈ q
  · have h1 : 4 ≤ (hs t).s ∧ (hs t).s ≤ 9 := h.pi.qi.inq hq
    omega
  · have h1 := h.pi.qi.out t ht hq
    have h2 : (VS.of s hs).st t = (hs t).s := rfl
    rcases h1 with h1 | ⟨h1, _⟩ | ⟨h1 | h1, _⟩ <;> omega
/-- What Take makes of it. -/
def TakeTo (R : Nat) (s : MS) (hs : Nat → HD) (n : Nat → Nat) (q sw hd : List Nat) (t : Nat) (r : HD × MS) : Prop :=
  ∃ q', SI R r.2 (upd hs t r.1) n q' (if r.2.kind = 3 ∧ r.2.done = true then sw ++ [t] else sw) (if r.1.s = 9 then hd ++ [t] else hd) ∧ StepC (VS.of s hs) q n (VS.of r.2 (upd hs t r.1)) q' n R t ∧ r.2.steps = wrap64 (s.steps + 1)
def DropTo (R : Nat) (s : MS) (hs : Nat → HD) (n : Nat → Nat) (q sw hd : List Nat) (t : Nat) (r : HD × MS) : Prop :=
  ∃ q', SI R r.2 (upd hs t r.1) (if r.1.s = 0 then updW n t (n t + 1) else n) q' sw hd ∧ StepC (VS.of s hs) q n (VS.of r.2 (upd hs t r.1)) q' (if r.1.s = 0 then updW n t (n t + 1) else n) R t ∧ r.2.steps = wrap64 (s.steps + 1)
theorem TakeTo.of {r : HD × MS} {v' : VS} (q' sw' hd' : List Nat) (h1 : r.2.zs.length = 48) (h2 : ∀ j, j < 4 → (upd hs t r.1 j).t = (j : Int) ∧ (upd hs t r.1 j).l = 0) (e : VS.of r.2 (upd hs t r.1) = v')
    (h3 : PI v' q' n R sw' hd') (h4 : StepC (VS.of s hs) q n v' q' n R t) (h5 : (if r.2.kind = 3 ∧ r.2.done = true then sw ++ [t] else sw) = sw') (h6 : (if r.1.s = 9 then hd ++ [t] else hd) = hd') (h7 : r.2.steps = wrap64 (s.steps + 1)) : TakeTo R s hs n q sw hd t r := by
  subst e h5 h6
  exact ⟨q', ⟨h1, h2, h3⟩, h4, h7⟩
theorem DropTo.of {r : HD × MS} {v' : VS} (q' : List Nat) (n' : Nat → Nat) (h1 : r.2.zs.length = 48) (h2 : ∀ j, j < 4 → (upd hs t r.1 j).t = (j : Int) ∧ (upd hs t r.1 j).l = 0) (e : VS.of r.2 (upd hs t r.1) = v')
    (h3 : PI v' q' n' R sw hd) (h4 : StepC (VS.of s hs) q n v' q' n' R t) (h5 : (if r.1.s = 0 then updW n t (n t + 1) else n) = n') (h7 : r.2.steps = wrap64 (s.steps + 1)) : DropTo R s hs n q sw hd t r := by
  subst e h5
  exact ⟨q', ⟨h1, h2, h3⟩, h4, h7⟩

theorem SI.take (h : SI R s hs n q sw hd) (ht : t < 4) (hst : (hs t).s ≤ 5) (hn : n t < R) : TakeTo R s hs n q sw hd t (mcTake mp4 s (hs t)) := by
  have hmay := h.may ht
  obtain ⟨e1, e2⟩ := h.hand t ht
  have h0 := (h.range ht).1
  have hlen := h.len
  have hp := h.pi
  have vst : (VS.of s hs).st t = (hs t).s := rfl
  have hout : (hs t).s < 4 → t ∉ q ∧ OutOk (VS.of s hs) t := fun hl => by have := hp.qi.notq (t := t) (by rw [vst]; exact hl); exact ⟨this, hp.qi.out t ht this⟩
  rcases (show (hs t).s = 0 ∨ (hs t).s = 1 ∨ (hs t).s = 2 ∨ (hs t).s = 3 ∨ (hs t).s = 4 ∨ (hs t).s = 5 by omega) with hs0 | hs0 | hs0 | hs0 | hs0 | hs0
  · rw [mcT0 hmay hs0, e1, e2, gate_at ht]
    have hv : VS.of (s.stored ((24 + 4 * t : Nat) : Int) 1) (upd hs t ⟨t, 0, 1, (hs t).rd, (hs t).x⟩) = { VS.of s hs with st := updW (VS.of s hs).st t 1, g := updW (VS.of s hs).g t 1 } := by
      have hz := stored_nat (s := s) (p := 24 + 4 * t) (v := 1) (by omega)
      refine VS.eq (of_st _ _ _ _) ((of_x _ _ _ _).trans (updW_same _ _)) ?_ ?_ ?_
      · show gF (s.stored ((24 + 4 * t : Nat) : Int) 1).zs = _; rw [hz, gF_setg hlen ht]; rfl
      · show kF (s.stored ((24 + 4 * t : Nat) : Int) 1).zs = _; rw [hz, kF_setg]; rfl
      · show (s.stored ((24 + 4 * t : Nat) : Int) 1).zs.getD 4 0 = _; rw [hz, getD_set_other (by omega)]; rfl
    obtain ⟨k1, k2⟩ := stored_n (s := s) (p := 24 + 4 * t) (v := 1) (by omega)
    obtain ⟨hq, _⟩ := hout (by omega)
    have hS := hp.outS (v' := { VS.of s hs with st := updW (VS.of s hs).st t 1, g := updW (VS.of s hs).g t 1 }) hn hq rfl (fun j hj => ⟨updW_ne hj, rfl, updW_ne hj, rfl⟩) (.inr (.inl ⟨updW_at _ _ _, updW_at _ _ _⟩)) (fun _ => by simp [gcost, updW_at, vst, hs0])
    exact TakeTo.of (q) _ _ (by rw [len_stored]; exact hlen) (h.up e1.symm e2.symm ht) hv hS.1 hS.2 (if_neg fun e => absurd (k1.symm.trans e.1) (by decide)) (if_neg (show ¬ (1 : Int) = 9 by decide)) k2
  · rw [mcT1 hmay hs0, e1, e2, link_at ht]
    have hv : VS.of (s.stored ((25 + 4 * t : Nat) : Int) 0) (upd hs t ⟨t, 0, 2, (hs t).rd, (hs t).x⟩) = { VS.of s hs with st := updW (VS.of s hs).st t 2, k := updW (VS.of s hs).k t 0 } := by
      have hz := stored_nat (s := s) (p := 25 + 4 * t) (v := 0) (by omega)
      refine VS.eq (of_st _ _ _ _) ((of_x _ _ _ _).trans (updW_same _ _)) ?_ ?_ ?_
      · show gF (s.stored ((25 + 4 * t : Nat) : Int) 0).zs = _; rw [hz, gF_setk]; rfl
      · show kF (s.stored ((25 + 4 * t : Nat) : Int) 0).zs = _; rw [hz, kF_setk hlen ht]; rfl
      · show (s.stored ((25 + 4 * t : Nat) : Int) 0).zs.getD 4 0 = _; rw [hz, getD_set_other (by omega)]; rfl
    obtain ⟨k1, k2⟩ := stored_n (s := s) (p := 25 + 4 * t) (v := 0) (by omega)
    obtain ⟨hq, ho⟩ := hout (by omega)
    have hg : (VS.of s hs).g t = 1 := by rcases ho with ho | ⟨_, ho⟩ | ⟨ho | ho, _⟩ <;> first | exact ho | omega
    have hS := hp.outS (v' := { VS.of s hs with st := updW (VS.of s hs).st t 2, k := updW (VS.of s hs).k t 0 }) hn hq rfl (fun j hj => ⟨updW_ne hj, rfl, rfl, updW_ne hj⟩) (.inr (.inr ⟨.inl (updW_at _ _ _), hg, updW_at _ _ _⟩)) (fun _ => by simp [gcost, updW_at, vst, hs0])
    exact TakeTo.of (q) _ _ (by rw [len_stored]; exact hlen) (h.up e1.symm e2.symm ht) hv hS.1 hS.2 (if_neg fun e => absurd (k1.symm.trans e.1) (by decide)) (if_neg (show ¬ (2 : Int) = 9 by decide)) k2
  · rw [mcT2 hmay hs0, e1, e2, tail_at, vAt_nat (by omega)]
    have hv : VS.of (s.loaded ((4 : Nat) : Int)) (upd hs t ⟨t, 0, 3, (hs t).rd, s.zs.getD 4 0⟩) = { VS.of s hs with st := updW (VS.of s hs).st t 3, x := updW (VS.of s hs).x t (s.zs.getD 4 0) } := by
      have hz := loaded_zs s ((4 : Nat) : Int)
      refine VS.eq (of_st _ _ _ _) (of_x _ _ _ _) ?_ ?_ ?_
      · show gF (s.loaded ((4 : Nat) : Int)).zs = _; rw [hz]; rfl
      · show kF (s.loaded ((4 : Nat) : Int)).zs = _; rw [hz]; rfl
      · show (s.loaded ((4 : Nat) : Int)).zs.getD 4 0 = _; rw [hz]; rfl
    obtain ⟨k1, k2⟩ := loaded_n (s := s) (p := 4) (by omega)
    obtain ⟨hq, ho⟩ := hout (by omega)
    have hg : (VS.of s hs).g t = 1 ∧ (VS.of s hs).k t = 0 := by rcases ho with ho | ⟨ho, _⟩ | ⟨_, ho⟩ <;> first | exact ho | omega
    have hS := hp.outS (v' := { VS.of s hs with st := updW (VS.of s hs).st t 3, x := updW (VS.of s hs).x t (s.zs.getD 4 0) }) hn hq rfl (fun j hj => ⟨updW_ne hj, updW_ne hj, rfl, rfl⟩) (.inr (.inr ⟨.inr (updW_at _ _ _), hg.1, hg.2⟩)) (fun _ => by unfold gcost; simp only [updW_at, vst, hs0, Int.reduceEq, ↓reduceIte]; split <;> decide)
    exact TakeTo.of (q) _ _ (by rw [len_loaded]; exact hlen) (h.up e1.symm e2.symm ht) hv hS.1 hS.2 (if_neg fun e => absurd (k1.symm.trans e.1) (by decide)) (if_neg (show ¬ (3 : Int) = 9 by decide)) k2
  · rw [mcT3 hmay hs0]
    unfold mcQueue
    rw [e1, e2, tail_at, id_at ht, vAt_nat (by omega)]
    obtain ⟨hq, ho⟩ := hout (by omega)
    have hg : (VS.of s hs).g t = 1 ∧ (VS.of s hs).k t = 0 := by rcases ho with ho | ⟨ho, _⟩ | ⟨_, ho⟩ <;> first | exact ho | omega
    by_cases hx : s.zs.getD 4 0 = (hs t).x
    · rw [if_pos hx]
      obtain ⟨k0, k1, k2, k3⟩ := swapped_y (s := s) (p := 4) (v := idq t) (by omega) hx
      by_cases hx0 : (hs t).x = 0
      · rw [if_pos hx0]
        have hv : VS.of (s.swapped ((4 : Nat) : Int) (hs t).x (idq t)) (upd hs t ⟨t, 0, 9, (hs t).rd, (hs t).x⟩) = { VS.of s hs with st := updW (VS.of s hs).st t 9, T := idq t } := by
          refine VS.eq (of_st _ _ _ _) ((of_x _ _ _ _).trans (updW_same _ _)) ?_ ?_ ?_
          · show gF (s.swapped ((4 : Nat) : Int) (hs t).x (idq t)).zs = _; rw [k0, gF_set4]; rfl
          · show kF (s.swapped ((4 : Nat) : Int) (hs t).x (idq t)).zs = _; rw [k0, kF_set4]; rfl
          · show (s.swapped ((4 : Nat) : Int) (hs t).x (idq t)).zs.getD 4 0 = _; rw [k0, getD_set_same (by omega)]
        cases q with
        | cons b r =>
          have h1 : s.zs.getD 4 0 = idq (lastOf b r) := hp.qi.body.1
          exact absurd (h1.symm.trans (hx.trans hx0)) (idq_ne _)
        | nil =>
          have hS := hp.enterS ht hn hs0
          exact TakeTo.of ([t]) _ _ (by rw [len_swapped]; exact hlen) (h.up e1.symm e2.symm ht) hv hS.1 hS.2 (if_pos ⟨k1, k2⟩) (if_pos rfl) k3
      · rw [if_neg hx0]
        have hv : VS.of (s.swapped ((4 : Nat) : Int) (hs t).x (idq t)) (upd hs t ⟨t, 0, 4, (hs t).rd, (hs t).x⟩) = { VS.of s hs with st := updW (VS.of s hs).st t 4, T := idq t } := by
          refine VS.eq (of_st _ _ _ _) ((of_x _ _ _ _).trans (updW_same _ _)) ?_ ?_ ?_
          · show gF (s.swapped ((4 : Nat) : Int) (hs t).x (idq t)).zs = _; rw [k0, gF_set4]; rfl
          · show kF (s.swapped ((4 : Nat) : Int) (hs t).x (idq t)).zs = _; rw [k0, kF_set4]; rfl
          · show (s.swapped ((4 : Nat) : Int) (hs t).x (idq t)).zs.getD 4 0 = _; rw [k0, getD_set_same (by omega)]
        cases q with
        | nil =>
          have h1 : s.zs.getD 4 0 = 0 := hp.qi.body
          exact absurd (hx.symm.trans h1) hx0
        | cons b r =>
          have hS := hp.joinS ht hn hs0 hx.symm
          exact TakeTo.of (b :: (r ++ [t])) _ _ (by rw [len_swapped]; exact hlen) (h.up e1.symm e2.symm ht) hv hS.1 hS.2 (if_pos ⟨k1, k2⟩) (if_neg (show ¬ (4 : Int) = 9 by decide)) k3
    · rw [if_neg hx]
      obtain ⟨k0, k1, k2, k3⟩ := swapped_no (s := s) (p := 4) (v := idq t) (by omega) hx
      have hv : VS.of (s.swapped ((4 : Nat) : Int) (hs t).x (idq t)) (upd hs t ⟨t, 0, (hs t).s, (hs t).rd, s.zs.getD 4 0⟩) = { VS.of s hs with x := updW (VS.of s hs).x t (s.zs.getD 4 0) } := by
        refine VS.eq ((of_st _ _ _ _).trans (updW_same _ _)) (of_x _ _ _ _) ?_ ?_ ?_
        · show gF (s.swapped ((4 : Nat) : Int) (hs t).x (idq t)).zs = _; rw [k0]; rfl
        · show kF (s.swapped ((4 : Nat) : Int) (hs t).x (idq t)).zs = _; rw [k0]; rfl
        · show (s.swapped ((4 : Nat) : Int) (hs t).x (idq t)).zs.getD 4 0 = _; rw [k0]; rfl
      have hvx : (VS.of s hs).x t = (hs t).x := rfl
      have hS := hp.outS (v' := { VS.of s hs with x := updW (VS.of s hs).x t (s.zs.getD 4 0) }) hn hq rfl (fun j hj => ⟨rfl, updW_ne hj, rfl, rfl⟩) (.inr (.inr ⟨.inr hs0, hg.1, hg.2⟩)) (fun hnil => by
        subst hnil
        have h1 : s.zs.getD 4 0 = 0 := hp.qi.body
        unfold gcost
        simp only [updW_at, vst, hs0, hvx, h1, Int.reduceEq, ↓reduceIte]
        rw [if_neg (fun e => hx (h1.trans e.symm))]
        decide)
      exact TakeTo.of (q) _ _ (by rw [len_swapped]; exact hlen) (h.up e1.symm e2.symm ht) hv hS.1 hS.2 (if_neg fun e => absurd (k2.symm.trans e.2) (by decide)) (if_neg fun e => absurd (hs0.symm.trans e) (by decide)) k3
  · rw [mcT4 hmay hs0, e1, e2, id_at ht]
    have hin := hp.qi.isq ht (by rw [vst]; omega)
    cases q with
    | nil => exact absurd hin (by simp)
    | cons b r =>
      have htr : t ∈ r := by
        rcases List.mem_cons.1 hin with rfl | hin
        · rcases hp.qi.body.2.1 with ⟨h, _⟩ | h | h | ⟨h, _⟩ | ⟨h, _⟩ <;> omega
        · exact hin
      obtain ⟨p, hp4, hx, hS⟩ := hp.tellS htr hs0
      have hx' : (hs t).x = idq p := hx
      rw [hx', nodeF_at hp4, link_at hp4, if_pos (by omega)]
      have hv : VS.of (s.stored ((25 + 4 * p : Nat) : Int) (idq t)) (upd hs t ⟨t, 0, 5, (hs t).rd, 0⟩) = { VS.of s hs with k := updW (VS.of s hs).k p (idq t), st := updW (VS.of s hs).st t 5, x := updW (VS.of s hs).x t 0 } := by
        have hz := stored_nat (s := s) (p := 25 + 4 * p) (v := idq t) (by omega)
        refine VS.eq (of_st _ _ _ _) (of_x _ _ _ _) ?_ ?_ ?_
        · show gF (s.stored ((25 + 4 * p : Nat) : Int) (idq t)).zs = _; rw [hz, gF_setk]; rfl
        · show kF (s.stored ((25 + 4 * p : Nat) : Int) (idq t)).zs = _; rw [hz, kF_setk hlen hp4]; rfl
        · show (s.stored ((25 + 4 * p : Nat) : Int) (idq t)).zs.getD 4 0 = _; rw [hz, getD_set_other (by omega)]; rfl
      obtain ⟨k1, k2⟩ := stored_n (s := s) (p := 25 + 4 * p) (v := idq t) (by omega)
      exact TakeTo.of (b :: r) _ _ (by rw [len_stored]; exact hlen) (h.up e1.symm e2.symm ht) hv hS.1 hS.2 (if_neg fun e => absurd (k1.symm.trans e.1) (by decide)) (if_neg (show ¬ (5 : Int) = 9 by decide)) k2
  · rw [mcT5 hmay hs0, e1, e2, gate_at ht, vAt_nat (by omega)]
    obtain ⟨k1, k2⟩ := loaded_n (s := s) (p := 24 + 4 * t) (by omega)
    have hz := loaded_zs s ((24 + 4 * t : Nat) : Int)
    have hin := hp.qi.isq ht (by rw [vst]; omega)
    cases q with
    | nil => exact absurd hin (by simp)
    | cons b r =>
      by_cases hbt : b = t
      · subst hbt
        have hg0 : s.zs.getD (24 + 4 * b) 0 = 0 := by
          rcases hp.qi.body.2.1 with ⟨_, h⟩ | h | h | ⟨h, _⟩ | ⟨h, _⟩
          · exact h
          all_goals omega
        rw [if_pos hg0]
        have hv : VS.of (s.loaded ((24 + 4 * b : Nat) : Int)) (upd hs b ⟨b, 0, 9, (hs b).rd, (hs b).x⟩) = { VS.of s hs with st := updW (VS.of s hs).st b 9, x := updW (VS.of s hs).x b (hs b).x } := by
          refine VS.eq (of_st _ _ _ _) (of_x _ _ _ _) ?_ ?_ ?_
          · show gF (s.loaded ((24 + 4 * b : Nat) : Int)).zs = _; rw [hz]; rfl
          · show kF (s.loaded ((24 + 4 * b : Nat) : Int)).zs = _; rw [hz]; rfl
          · show (s.loaded ((24 + 4 * b : Nat) : Int)).zs.getD 4 0 = _; rw [hz]; rfl
        have hl : (if 5 < (hs b).s then sw = hd ++ r else sw = hd ++ b :: r) := hp.lst
        rw [if_neg (by omega)] at hl
        have hc : hd.length = sumN n + (if 5 < (hs b).s then 1 else 0) := hp.cnt
        rw [if_neg (by omega)] at hc
        have hS := hp.headS (s' := 9) (x' := (hs b).x) (hd' := hd ++ [b]) (e' := 5) (.inr (.inl (updW_at _ _ _)))
          (by show (if 5 < updW (VS.of s hs).st b 9 b then sw = (hd ++ [b]) ++ r else _); rw [updW_at, if_pos (by decide), hl, List.append_assoc]; rfl)
          (by show (hd ++ [b]).length = sumN n + (if 5 < updW (VS.of s hs).st b 9 b then 1 else 0); rw [updW_at, if_pos (by decide), List.length_append, hc]; rfl)
          (fun a e hc => by rcases hc with ⟨_, g, g2⟩ | ⟨g, _⟩ | ⟨g, _⟩ | ⟨g, _⟩ | ⟨g, _⟩ <;> first | exact ⟨g, by omega⟩ | omega)
          ⟨b, .inr (.inl ⟨updW_at _ _ _, rfl, rfl⟩)⟩
        exact TakeTo.of (b :: r) _ _ (by rw [len_loaded]; exact hlen) (h.up e1.symm e2.symm ht) hv hS.1 hS.2 (if_neg fun e => absurd (k1.symm.trans e.1) (by decide)) (if_pos rfl) k2
      · have htr : t ∈ r := by rcases List.mem_cons.1 hin with h | h; exact absurd h.symm hbt; exact h
        have hg1 : s.zs.getD (24 + 4 * t) 0 = 1 := (hp.qi.body.2.2.mem t htr).1
        rw [if_neg (by rw [hg1]; decide)]
        have hu : upd hs t (hs t) = hs := by
          funext j
          by_cases e : j = t
          · rw [e, upd_at]
          · rw [upd_ne e]
        have hv : VS.of (s.loaded ((24 + 4 * t : Nat) : Int)) hs = VS.of s hs := by
          refine VS.eq rfl rfl ?_ ?_ ?_
          · show gF (s.loaded ((24 + 4 * t : Nat) : Int)).zs = _; rw [hz]; rfl
          · show kF (s.loaded ((24 + 4 * t : Nat) : Int)).zs = _; rw [hz]; rfl
          · show (s.loaded ((24 + 4 * t : Nat) : Int)).zs.getD 4 0 = _; rw [hz]; rfl
        exact TakeTo.of (b :: r) _ _ (by rw [len_loaded]; exact hlen) (by rw [hu]; exact h.hand) (by rw [hu]; exact hv) hp (hp.stayS htr hs0) (if_neg fun e => absurd (k1.symm.trans e.1) (by decide)) (if_neg fun e => absurd (hs0.symm.trans e) (by decide)) k2
end

end Go.Proofs.Ytmcmajndcbobpaa
