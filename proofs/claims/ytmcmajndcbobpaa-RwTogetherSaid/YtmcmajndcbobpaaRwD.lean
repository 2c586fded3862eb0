/-
  A step of one of four readers and writers, in plain words.
-/
import Derived.Test.YtmcmajndcbobpaaRwS
import Derived.Test.YtmcmajndcbobpaaStepR
namespace Go.Proofs.Ytmcmajndcbobpaa
open Go.RowKit

section
variable {R : Nat} {s s' : MS} {hs : Nat → HD} {n : Nat → Nat} {q sw hd : List Nat} {t : Nat}
/-- A reader on its way out of the queue. -/
theorem rw_leave (hb : RB s hs) (h : SI R s (vh hs) n q sw hd) (ht : t < 4) (e1 : (hs t).t = t) (e2 : (hs t).l = 0) (hr : (hs t).rd = true) (h11 : 11 ≤ (hs t).s) (h14 : (hs t).s ≤ 14) :
    ∃ q' n', RB (rwLeave mp4 s (hs t)).2 (upd hs t (rwLeave mp4 s (hs t)).1) ∧ SI R (rwLeave mp4 s (hs t)).2 (vh (upd hs t (rwLeave mp4 s (hs t)).1)) n' q' sw hd ∧
      RStep s hs q n (rwLeave mp4 s (hs t)).2 (upd hs t (rwLeave mp4 s (hs t)).1) q' n' R t ∧ ((rwLeave mp4 s (hs t)).1.t = t ∧ (rwLeave mp4 s (hs t)).1.l = 0) ∧ (rwLeave mp4 s (hs t)).1.rd = true ∧
      n' t = n t + f9 (rwLeave mp4 s (hs t)).1 ∧ (∀ j, j ≠ t → n' j = n j) := by
  have m0 : mst (hs t) = dnI (hs t).s := by unfold mst; rw [if_neg (by omega), if_pos hr, if_neg (by omega), if_pos h11]
  have hv : vh hs t = inH (hs t) := HD.eq5 e1.symm e2.symm m0 rfl rfl
  have hdn := dnI_range (hs t).s
  have h5 : 5 < (vh hs t).s := by rw [hv]; show 5 < dnI (hs t).s; omega
  have hT := h.drop ht h5
  rw [hv] at hT
  have hst : (VS.of s (vh hs)).st t = dnI (hs t).s := m0
  have hnR := h.pi.act t ht (by rw [hst]; omega)
  have hup := remN_up ht hnR
  have hpos := remN_pos ht hnR
  have hkd := rDrop_kind (s := s) (h := inH (hs t)) mp4 (may_of ht e1 e2) (by show dnI (hs t).s = 9 ∨ dnI (hs t).s = 6 ∨ dnI (hs t).s = 7 ∨ dnI (hs t).s = 8; omega)
  have h7 := mcDrop_7 (s := s) (h := inH (hs t)) ht e1 e2
  have hrd := mcDrop_rd (s := s) (h := inH (hs t)) mp4
  unfold rwLeave
  dsimp only
  generalize mcDrop mp4 s (inH (hs t)) = r at *
  have hrd' : r.1.rd = true := hrd.trans hr
  obtain ⟨q', hS, hC, _⟩ := hT
  obtain ⟨g1, g2⟩ := hS.hand t ht
  rw [upd_at] at g1 g2
  generalize hg : outH r.1 = g
  have gt : g.t = t := by rw [← hg]; exact g1
  have gl : g.l = 0 := by rw [← hg]; exact g2
  have gr : g.rd = true := by rw [← hg]; exact hrd'
  have gx : g.x = r.1.x := by rw [← hg]; rfl
  have gs : g.s = upI r.1.s := by rw [← hg]; rfl
  have gm : mst g = r.1.s := by
    unfold mst
    rw [gs]
    rcases hkd with e | e | e | e <;> rw [e, gr] <;> decide
  have hvg : vhd t g = r.1 := HD.eq5 g1.symm g2.symm gm (gr.trans hrd'.symm) gx
  have hvh : vh (upd hs t g) = upd (vh hs) t r.1 := by rw [vh_upd, hvg]
  have a1 : f9 (hs t) = 0 := if_neg fun e => by omega
  have a2 : fin (hs t) = 1 := if_pos ⟨hr, .inr h11⟩
  have a3 : fp (hs t) = 1 := if_pos (.inr ⟨hr, h11⟩)
  have hgs : g.s = 9 ∨ 11 ≤ g.s ∧ g.s ≤ 14 := by
    rw [gs]
    unfold upI
    repeat' split
    all_goals omega
  have b2 : fin g = 1 := if_pos ⟨gr, by omega⟩
  have s1 := sum4_upd f9 hs ht g
  have s2 := sum4_upd fin hs ht g
  have s3 := sum4_upd fp hs ht g
  have hb' : RB r.2 (upd hs t g) := by
    refine ⟨fun j hj => ?_, ?_, fun j hj h1 h2 h3 => ?_⟩
    · by_cases e : j = t
      · rw [e, upd_at]
        rcases hgs with h | h
        · exact .inr (.inl h)
        · exact .inr (.inr (.inr (.inl ⟨gr, h⟩)))
      · rw [upd_ne e]; exact hb.ok j hj
    · rw [h7, hb.cnt]; omega
    · by_cases e : j = t
      · rw [e, upd_at, gr] at h1; exact absurd h1 (by decide)
      · rw [upd_ne e] at h1 h2 h3
        have := hb.wr j hj h1 h2 h3
        omega
  have hBK : ∀ a c, t ≠ a → Cost (VS.of r.2 (vh (upd hs t g))) q' (if r.1.s = 0 then updW n t (n t + 1) else n) R a c → (Blk r.2 (upd hs t g) ↔ Blk s hs) := fun a c _ _ =>
    Blk.of_eq h7 (by omega) (by rw [upd_at]; omega) (upd_back _)
  have hS' : SI R r.2 (vh (upd hs t g)) (if r.1.s = 0 then updW n t (n t + 1) else n) q' sw hd := by rw [hvh]; exact hS
  have hC' : StepC (VS.of s (vh hs)) q n (VS.of r.2 (vh (upd hs t g))) q' (if r.1.s = 0 then updW n t (n t + 1) else n) R t := by rw [hvh]; exact hC
  by_cases hz : r.1.s = 0
  · rw [if_pos hz] at hBK hS' hC'
    have g9 : g.s = 9 := by rw [gs, hz]; rfl
    have b1 : f9 g = 1 := if_pos ⟨gr, g9⟩
    have b3 : fp g = 0 := if_neg fun e => by
      rcases e with ⟨e, _⟩ | ⟨_, e⟩
      · rw [gr] at e; exact absurd e (by decide)
      · omega
    exact ⟨q', _, hb', hS', RStep.of hb h hb' hS' ht hC' (by omega) (by omega) hBK (fun e => by omega) (upd_back _), ⟨gt, gl⟩, gr, by rw [updW_at, b1], fun j hj => updW_ne hj⟩
  · rw [if_neg hz] at hBK hS' hC'
    have g11 : 11 ≤ g.s := by
      rw [gs]
      rcases hkd with e | e | e | e
      · exact absurd e hz
      · rw [e]; decide
      · rw [e]; decide
      · rw [e]; decide
    have b1 : f9 g = 0 := if_neg fun e => by omega
    have b3 : fp g = 1 := if_pos (.inr ⟨gr, g11⟩)
    exact ⟨q', _, hb', hS', RStep.of hb h hb' hS' ht hC' (by omega) (by omega) hBK (fun e => by omega) (upd_back _), ⟨gt, gl⟩, gr, by rw [b1]; rfl, fun j hj => rfl⟩
/-- A writer on its way out. -/
theorem rw_drop (hb : RB s hs) (h : SI R s (vh hs) n q sw hd) (ht : t < 4) (e1 : (hs t).t = t) (e2 : (hs t).l = 0) (hw : (hs t).rd = false) (h6 : 6 ≤ (hs t).s) (h9 : (hs t).s ≤ 9) :
    ∃ q' n', RB (mcDrop mp4 s (hs t)).2 (upd hs t (mcDrop mp4 s (hs t)).1) ∧ SI R (mcDrop mp4 s (hs t)).2 (vh (upd hs t (mcDrop mp4 s (hs t)).1)) n' q' sw hd ∧
      RStep s hs q n (mcDrop mp4 s (hs t)).2 (upd hs t (mcDrop mp4 s (hs t)).1) q' n' R t ∧ ((mcDrop mp4 s (hs t)).1.t = t ∧ (mcDrop mp4 s (hs t)).1.l = 0) ∧ (mcDrop mp4 s (hs t)).1.rd = false ∧
      ((mcDrop mp4 s (hs t)).1.s = 0 ∨ 6 ≤ (mcDrop mp4 s (hs t)).1.s ∧ (mcDrop mp4 s (hs t)).1.s ≤ 8) ∧
      n' t = n t + (if (mcDrop mp4 s (hs t)).1.s = 0 then 1 else 0) ∧ (∀ j, j ≠ t → n' j = n j) := by
  have m0 : mst (hs t) = (hs t).s := mst_wr hw (by omega)
  have hv : vh hs t = hs t := vh_at e1 e2 m0
  have hT := h.drop ht (by rw [hv]; omega)
  rw [hv] at hT
  have hst : (VS.of s (vh hs)).st t = (hs t).s := m0
  have hnR := h.pi.act t ht (by rw [hst]; omega)
  have hup := remN_up ht hnR
  have hpos := remN_pos ht hnR
  have hkd := rDrop_kind (s := s) (h := hs t) mp4 (may_of ht e1 e2) (by omega)
  have h7 := mcDrop_7 (s := s) (h := hs t) ht e1 e2
  have hrd := mcDrop_rd (s := s) (h := hs t) mp4
  have hwr := hb.wr t ht hw h6 h9
  generalize mcDrop mp4 s (hs t) = r at *
  have gr : r.1.rd = false := hrd.trans hw
  obtain ⟨q', hS, hC, _⟩ := hT
  obtain ⟨g1, g2⟩ := hS.hand t ht
  rw [upd_at] at g1 g2
  have hvg : vhd t r.1 = r.1 := HD.eq5 g1.symm g2.symm (mst_wr gr (by omega)) rfl rfl
  have hvh : vh (upd hs t r.1) = upd (vh hs) t r.1 := by rw [vh_upd, hvg]
  have a1 : f9 (hs t) = 0 := if_neg fun e => by rw [hw] at e; exact absurd e.1 (by decide)
  have a2 : fin (hs t) = 0 := if_neg fun e => by rw [hw] at e; exact absurd e.1 (by decide)
  have a3 : fp (hs t) = 1 := if_pos (.inl ⟨hw, h6, h9⟩)
  have b1 : f9 r.1 = 0 := if_neg fun e => by rw [gr] at e; exact absurd e.1 (by decide)
  have b2 : fin r.1 = 0 := if_neg fun e => by rw [gr] at e; exact absurd e.1 (by decide)
  have s1 := sum4_upd f9 hs ht r.1
  have s2 := sum4_upd fin hs ht r.1
  have s3 := sum4_upd fp hs ht r.1
  have hb' : RB r.2 (upd hs t r.1) := by
    refine ⟨fun j hj => ?_, ?_, fun j hj h1 h2 h3 => by omega⟩
    · by_cases e : j = t
      · rw [e, upd_at]
        rcases hkd with h | h
        · exact .inl ⟨by omega, by omega⟩
        · exact .inr (.inr (.inr (.inr ⟨gr, by omega, by omega⟩)))
      · rw [upd_ne e]; exact hb.ok j hj
    · rw [h7, hb.cnt]; omega
  have hBK : ∀ a c, t ≠ a → Cost (VS.of r.2 (vh (upd hs t r.1))) q' (if r.1.s = 0 then updW n t (n t + 1) else n) R a c → (Blk r.2 (upd hs t r.1) ↔ Blk s hs) := fun a c _ _ =>
    Blk.of_eq h7 (by omega) (by rw [upd_at]; omega) (upd_back _)
  have hS' : SI R r.2 (vh (upd hs t r.1)) (if r.1.s = 0 then updW n t (n t + 1) else n) q' sw hd := by rw [hvh]; exact hS
  have hC' : StepC (VS.of s (vh hs)) q n (VS.of r.2 (vh (upd hs t r.1))) q' (if r.1.s = 0 then updW n t (n t + 1) else n) R t := by rw [hvh]; exact hC
  have h9' : ¬ ((hs t).rd = true ∧ (hs t).s = 9) := fun e => by rw [hw] at e; exact absurd e.1 (by decide)
  by_cases hz : r.1.s = 0
  · rw [if_pos hz] at hBK hS' hC' ⊢
    have b3 : fp r.1 = 0 := if_neg fun e => by
      rcases e with ⟨_, e, _⟩ | ⟨_, e⟩ <;> omega
    exact ⟨q', _, hb', hS', RStep.of hb h hb' hS' ht hC' (by omega) (by omega) hBK h9' (upd_back _), ⟨g1, g2⟩, gr, .inl hz, by rw [updW_at], fun j hj => updW_ne hj⟩
  · rw [if_neg hz] at hBK hS' hC' ⊢
    have hr8 : 6 ≤ r.1.s ∧ r.1.s ≤ 8 := by omega
    have b3 : fp r.1 = 1 := if_pos (.inl ⟨gr, by omega, by omega⟩)
    exact ⟨q', _, hb', hS', RStep.of hb h hb' hS' ht hC' (by omega) (by omega) hBK h9' (upd_back _), ⟨g1, g2⟩, gr, .inr hr8, rfl, fun j hj => rfl⟩
/-- A new hand. -/
theorem rw_fresh (hb : RB s hs) (h : SI R s (vh hs) n q sw hd) (ht : t < 4) (h0 : (hs t).s = 0) (g : HD) (g0 : g.s = 0) :
    RB s (upd hs t g) ∧ SI R s (vh (upd hs t g)) n q sw hd ∧ ∀ A C, RAct s hs q n R A C → RAct s (upd hs t g) q n R A C := by
  obtain ⟨a1, a2, a3⟩ := f_small (h := hs t) (by omega) (.inl (by omega))
  obtain ⟨b1, b2, b3⟩ := f_small (h := g) (by omega) (.inl (by omega))
  have s1 := sum4_upd f9 hs ht g
  have s2 := sum4_upd fin hs ht g
  have s3 := sum4_upd fp hs ht g
  have m0 : mst (hs t) = 0 := by rw [mst_small (by omega) (by omega), h0]
  have m1 : mst g = 0 := by rw [mst_small (by omega) (by omega), g0]
  have hst : (VS.of s (vh (upd hs t g))).st = (VS.of s (vh hs)).st := by
    funext j
    show mst (upd hs t g j) = mst (hs j)
    by_cases e : j = t
    · rw [e, upd_at, m0, m1]
    · rw [upd_ne e]
  have hx : ∀ j, j ≠ t → (VS.of s (vh (upd hs t g))).x j = (VS.of s (vh hs)).x j := fun j e => by
    show (upd hs t g j).x = (hs j).x
    rw [upd_ne e]
  have hst0 : (VS.of s (vh hs)).st t = 0 := m0
  have hb' : RB s (upd hs t g) := by
    refine ⟨fun j hj => ?_, by rw [hb.cnt]; omega, fun j hj h1 h2 h3 => ?_⟩
    · by_cases e : j = t
      · rw [e, upd_at]; exact .inl ⟨by omega, by omega⟩
      · rw [upd_ne e]; exact hb.ok j hj
    · by_cases e : j = t
      · rw [e, upd_at] at h2; omega
      · rw [upd_ne e] at h1 h2 h3
        have := hb.wr j hj h1 h2 h3
        omega
  have hpi : PI (VS.of s (vh (upd hs t g))) q n R sw hd := by
    refine ⟨h.pi.qi.outside (h.pi.qi.notq (t := t) (by omega)) rfl (fun j e => ⟨congrFun hst j, hx j e, rfl, rfl⟩) (.inl ((congrFun hst t).trans hst0)), h.pi.le, fun j hj k => h.pi.act j hj (by rw [← congrFun hst j]; exact k), ?_, ?_⟩
    · have := h.pi.lst
      cases q with
      | nil => exact this
      | cons b r => unfold LstQ at this ⊢; rw [hst]; exact this
    · have := h.pi.cnt
      cases q with
      | nil => exact this
      | cons b r => unfold busy at this ⊢; rw [hst]; exact this
  have hcost : ∀ a c, Cost (VS.of s (vh hs)) q n R a c → Cost (VS.of s (vh (upd hs t g))) q n R a c := fun a c hc => by
    cases q with
    | nil =>
      obtain ⟨k1, k2, k3⟩ := hc
      refine ⟨k1, k2, ?_⟩
      rw [k3]
      have hg : gcost (VS.of s (vh (upd hs t g))) a = gcost (VS.of s (vh hs)) a := by
        unfold gcost
        rw [hst]
        by_cases e : a = t
        · subst e
          rw [if_pos hst0, if_pos hst0]
        · rw [hx a e]
      rw [hg]
    | cons b r =>
      obtain ⟨e, k1, k2⟩ := hc
      exact ⟨e, k1, k2.congr fun j _ => congrFun hst j⟩
  have hiff : Blk s (upd hs t g) ↔ Blk s hs := Blk.of_eq rfl (by omega) (by rw [upd_at]; omega) (upd_back g)
  refine ⟨hb', ⟨h.len, fun _ _ => ⟨rfl, rfl⟩, hpi⟩, fun A C hac => ?_⟩
  have hA : (hs A).s = 9 → upd hs t g A = hs A := fun e => upd_ne fun e' => by rw [e', h0] at e; omega
  rcases hac with ⟨a, c, hc, he, hy, hn⟩ | ⟨k0, k1, k2, k3, k4⟩
  · refine .inl ⟨a, c, hcost a c hc, by omega, fun hk => ?_, fun hk => hn fun k => hk (hiff.2 k)⟩
    have := hy (hiff.1 hk)
    rw [hA this.2.2]
    exact this
  · refine .inr ⟨k0, k1, ?_, ?_, by omega⟩
    · rw [hA k3]; exact k2
    · rw [hA k3]; exact k3
end

end Go.Proofs.Ytmcmajndcbobpaa
