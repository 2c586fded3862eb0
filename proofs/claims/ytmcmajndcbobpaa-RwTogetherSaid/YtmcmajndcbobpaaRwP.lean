/-
  Readers and writers in a queue of four: in plain words, on top of the queue's own: who is counted, how far it is to the end. No program.
-/
import Derived.Test.YtmcmajndcbobpaaMcOrdD
import Derived.Test.YtmcmajndcbobpaaRwq
import Derived.Test.YtmcmajndcbobpaaFourV
namespace Go.Proofs.Ytmcmajndcbobpaa
open Go.RowKit

/-- What a hand's State is to the queue. -/
def mst (h : HD) : Int := if h.s = 10 then 9 else if h.rd = true then (if h.s = 9 then 0 else if 11 ≤ h.s then dnI h.s else h.s) else h.s
def okH (h : HD) : Prop := (0 ≤ h.s ∧ h.s ≤ 5) ∨ h.s = 9 ∨ h.s = 10 ∨ (h.rd = true ∧ 11 ≤ h.s ∧ h.s ≤ 14) ∨ (h.rd = false ∧ 6 ≤ h.s ∧ h.s ≤ 8)
def vhd (t : Nat) (h : HD) : HD := ⟨t, 0, mst h, h.rd, h.x⟩
def vh (hs : Nat → HD) : Nat → HD := fun t => vhd t (hs t)
theorem vh_upd (hs : Nat → HD) (t : Nat) (g : HD) : vh (upd hs t g) = upd (vh hs) t (vhd t g) := by
  funext j
  by_cases e : j = t
  · subst e; rw [upd_at]; unfold vh; rw [upd_at]
  · rw [upd_ne e]; unfold vh; rw [upd_ne e]
theorem upd_idem (f : Nat → HD) (k : Nat) : upd f k (f k) = f := by
  funext j
  by_cases e : j = k
  · rw [e, upd_at]
  · rw [upd_ne e]

/-- A reader that holds it; one that is counted; one that had the lock and is in the queue still. -/
def f9 (h : HD) : Nat := if h.rd = true ∧ h.s = 9 then 1 else 0
def fin (h : HD) : Nat := if h.rd = true ∧ (h.s = 9 ∨ 11 ≤ h.s) then 1 else 0
def fp (h : HD) : Nat := if (h.rd = false ∧ 6 ≤ h.s ∧ h.s ≤ 9) ∨ (h.rd = true ∧ 11 ≤ h.s) then 1 else 0
def sum4 (f : HD → Nat) (hs : Nat → HD) : Nat := f (hs 0) + f (hs 1) + f (hs 2) + f (hs 3)
theorem sum4_upd (f : HD → Nat) (hs : Nat → HD) {t : Nat} (ht : t < 4) (g : HD) : sum4 f (upd hs t g) + f (hs t) = sum4 f hs + f g := by
  unfold sum4
  rcases four_cases ht with rfl | rfl | rfl | rfl
  · rw [upd_at, upd_ne (by decide), upd_ne (by decide), upd_ne (by decide)]; omega
  · rw [upd_at, upd_ne (by decide), upd_ne (by decide), upd_ne (by decide)]; omega
  · rw [upd_at, upd_ne (by decide), upd_ne (by decide), upd_ne (by decide)]; omega
  · rw [upd_at, upd_ne (by decide), upd_ne (by decide), upd_ne (by decide)]; omega
theorem sum4_get (f : HD → Nat) (hs : Nat → HD) {t : Nat} (ht : t < 4) : f (hs t) ≤ sum4 f hs := by
  unfold sum4
  rcases four_cases ht with rfl | rfl | rfl | rfl <;> omega
theorem sum4_some {f : HD → Nat} {hs : Nat → HD} (h : sum4 f hs ≠ 0) : ∃ t, t < 4 ∧ f (hs t) ≠ 0 := by
  unfold sum4 at h
  by_cases h0 : f (hs 0) = 0
  · by_cases h1 : f (hs 1) = 0
    · by_cases h2 : f (hs 2) = 0
      · exact ⟨3, by omega, by omega⟩
      · exact ⟨2, by omega, h2⟩
    · exact ⟨1, by omega, h1⟩
  · exact ⟨0, by omega, h0⟩
theorem f9_is {h : HD} (k : f9 h ≠ 0) : h.rd = true ∧ h.s = 9 := by
  unfold f9 at k
  by_cases c : h.rd = true ∧ h.s = 9
  · exact c
  · rw [if_neg c] at k; exact absurd rfl k
theorem fin_is {h : HD} (k : fin h ≠ 0) : h.rd = true ∧ (h.s = 9 ∨ 11 ≤ h.s) := by
  unfold fin at k
  by_cases c : h.rd = true ∧ (h.s = 9 ∨ 11 ≤ h.s)
  · exact c
  · rw [if_neg c] at k; exact absurd rfl k
theorem fin_le (h : HD) : fin h ≤ 1 := by unfold fin; split <;> omega
theorem sum_fin_le (hs : Nat → HD) : sum4 fin hs ≤ 4 := by
  unfold sum4
  have := fin_le (hs 0)
  have := fin_le (hs 1)
  have := fin_le (hs 2)
  have := fin_le (hs 3)
  omega

/-- The readers are counted; while a writer holds it there are none. -/
structure RB (s : MS) (hs : Nat → HD) : Prop where
  ok : ∀ t, t < 4 → okH (hs t)
  cnt : s.zs.getD 7 0 = (sum4 fin hs : Nat)
  wr : ∀ t, t < 4 → (hs t).rd = false → 6 ≤ (hs t).s → (hs t).s ≤ 9 → sum4 fin hs = 0
/-- A writer waits for readers. -/
def Blk (s : MS) (hs : Nat → HD) : Prop := s.zs.getD 7 0 ≠ 0 ∧ ∃ t, t < 4 ∧ (hs t).s = 10 ∧ (hs t).rd = false
def RCost (s : MS) (hs : Nat → HD) (q : List Nat) (n : Nat → Nat) (R A C : Nat) : Prop :=
  ∃ a c, Cost (VS.of s (vh hs)) q n R a c ∧ C + sum4 fp hs = c + 2 * remN n R + sum4 f9 hs ∧ (Blk s hs → A < 4 ∧ (hs A).rd = true ∧ (hs A).s = 9) ∧ (¬ Blk s hs → A = a)
def RLast (hs : Nat → HD) (n : Nat → Nat) (R A C : Nat) : Prop := remN n R = 0 ∧ A < 4 ∧ (hs A).rd = true ∧ (hs A).s = 9 ∧ C = sum4 f9 hs
def RAct (s : MS) (hs : Nat → HD) (q : List Nat) (n : Nat → Nat) (R A C : Nat) : Prop := RCost s hs q n R A C ∨ RLast hs n R A C
def RBetter (s : MS) (hs : Nat → HD) (q : List Nat) (n : Nat → Nat) (R C : Nat) : Prop := (remN n R = 0 ∧ sum4 f9 hs = 0) ∨ ∃ A' C', C' < C ∧ RAct s hs q n R A' C'
def RStep (s : MS) (hs : Nat → HD) (q : List Nat) (n : Nat → Nat) (s' : MS) (hs' : Nat → HD) (q' : List Nat) (n' : Nat → Nat) (R t : Nat) : Prop :=
  ∀ A C, RAct s hs q n R A C → (t = A → RBetter s' hs' q' n' R C) ∧ (t ≠ A → RAct s' hs' q' n' R A C ∨ RBetter s' hs' q' n' R C)

section
variable {R : Nat} {s s' : MS} {hs hs' : Nat → HD} {n n' : Nat → Nat} {q q' sw hd sw' hd' : List Nat} {t : Nat}
theorem mst_fp {h : HD} (hk : okH h) (hp : fp h ≠ 0) : 5 < mst h := by
  unfold fp at hp
  by_cases c : (h.rd = false ∧ 6 ≤ h.s ∧ h.s ≤ 9) ∨ (h.rd = true ∧ 11 ≤ h.s)
  · unfold mst
    rcases c with ⟨c1, c2, c3⟩ | ⟨c1, c2⟩
    · rw [if_neg (by omega), if_neg (by rw [c1]; decide)]; omega
    · rw [if_neg (by omega), if_pos c1, if_neg (by omega), if_pos c2]
      rcases dnI_range h.s with e | e | e | e <;> omega
  · rw [if_neg c] at hp; exact absurd rfl hp
theorem fp_le_one (h : HD) : fp h ≤ 1 := by unfold fp; split <;> omega
theorem vst (s : MS) (hs : Nat → HD) (t : Nat) : (VS.of s (vh hs)).st t = mst (hs t) := rfl
theorem fp_le (hb : RB s hs) (h : SI R s (vh hs) n q sw hd) : sum4 fp hs ≤ remN n R := by
  have key : ∀ t, t < 4 → fp (hs t) ≤ R - n t := fun t ht => by
    by_cases c : fp (hs t) = 0
    · omega
    · have := mst_fp (hb.ok t ht) c
      have := h.pi.act t ht (by rw [vst]; omega)
      have := fp_le_one (hs t)
      omega
  unfold sum4 remN
  have := key 0 (by omega)
  have := key 1 (by omega)
  have := key 2 (by omega)
  have := key 3 (by omega)
  omega
/-- While a writer waits for readers some reader holds the lock. -/
theorem Blk.reader (hb : RB s hs) (h : SI R s (vh hs) n q sw hd) (hk : Blk s hs) : ∃ A, A < 4 ∧ (hs A).rd = true ∧ (hs A).s = 9 := by
  obtain ⟨hr, t, ht, h10, hw⟩ := hk
  rw [hb.cnt] at hr
  obtain ⟨A, hA, hf⟩ := sum4_some (f := fin) (hs := hs) (by omega)
  obtain ⟨h1, h2⟩ := fin_is hf
  rcases h2 with h2 | h2
  · exact ⟨A, hA, h1, h2⟩
  · have e1 : 5 < (VS.of s (vh hs)).st A := by
      rw [vst]
      unfold mst
      rw [if_neg (by omega), if_pos h1, if_neg (by omega), if_pos h2]
      rcases dnI_range (hs A).s with e | e | e | e <;> omega
    have e2 : 5 < (VS.of s (vh hs)).st t := by rw [vst]; unfold mst; rw [if_pos h10]; decide
    obtain ⟨r, hr1⟩ := h.pi.qi.first hA e1
    obtain ⟨r', hr2⟩ := h.pi.qi.first ht e2
    rw [hr1] at hr2
    have : A = t := by simp at hr2; exact hr2.1
    subst this
    omega
theorem RCost.some (hb : RB s hs) (h : SI R s (vh hs) n q sw hd) {a c : Nat} (hc : Cost (VS.of s (vh hs)) q n R a c) : ∃ A C, RCost s hs q n R A C ∧ C + sum4 fp hs = c + 2 * remN n R + sum4 f9 hs := by
  have hp := fp_le hb h
  have he : (c + 2 * remN n R + sum4 f9 hs - sum4 fp hs) + sum4 fp hs = c + 2 * remN n R + sum4 f9 hs := by omega
  by_cases hk : Blk s hs
  · obtain ⟨A, h1, h2, h3⟩ := hk.reader hb h
    exact ⟨A, _, ⟨a, c, hc, he, fun _ => ⟨h1, h2, h3⟩, fun e => absurd hk e⟩, he⟩
  · exact ⟨a, _, ⟨a, c, hc, he, fun e => absurd e hk, fun _ => rfl⟩, he⟩
theorem RBetter.of (hb : RB s' hs') (h : SI R s' (vh hs') n' q' sw' hd') {a c C : Nat} (hc : Cost (VS.of s' (vh hs')) q' n' R a c) (hl : c + 2 * remN n' R + sum4 f9 hs' < C + sum4 fp hs') : RBetter s' hs' q' n' R C := by
  obtain ⟨A, C', h1, h2⟩ := RCost.some hb h hc
  exact .inr ⟨A, C', by omega, .inl h1⟩
theorem RBetter.zero {C : Nat} (h0 : remN n' R = 0) (hl : sum4 f9 hs' < C) : RBetter s' hs' q' n' R C := by
  by_cases h9 : sum4 f9 hs' = 0
  · exact .inl ⟨h0, h9⟩
  · obtain ⟨A, hA, hf⟩ := sum4_some (f := f9) (hs := hs') h9
    obtain ⟨h1, h2⟩ := f9_is hf
    exact .inr ⟨A, _, hl, .inr ⟨h0, hA, h1, h2, rfl⟩⟩
/-- A step in the queue. -/
theorem RStep.of (hb : RB s hs) (h : SI R s (vh hs) n q sw hd) (hb' : RB s' hs') (h' : SI R s' (vh hs') n' q' sw' hd') (ht : t < 4)
    (hS : StepC (VS.of s (vh hs)) q n (VS.of s' (vh hs')) q' n' R t)
    (hE : sum4 fp hs + 2 * remN n' R + sum4 f9 hs' ≤ sum4 fp hs' + 2 * remN n R + sum4 f9 hs)
    (hne : remN n R ≠ 0)
    (hB : ∀ a c, t ≠ a → Cost (VS.of s' (vh hs')) q' n' R a c → (Blk s' hs' ↔ Blk s hs))
    (ht9 : ¬ ((hs t).rd = true ∧ (hs t).s = 9)) (hsame : ∀ j, j ≠ t → hs' j = hs j) : RStep s hs q n s' hs' q' n' R t := by
  intro A C hac
  rcases hac with ⟨a, c, hc, he, hy, hn⟩ | ⟨h0, _⟩
  · obtain ⟨s1, s2⟩ := hS a c hc
    have hpos := hc.pos h.pi
    have better : Better (VS.of s' (vh hs')) q' n' R c → RBetter s' hs' q' n' R C := fun hb2 => by
      have hp' := fp_le hb' h'
      rcases hb2 with h0 | ⟨a', c', h1, h2⟩
      · exact .zero h0 (by omega)
      · exact .of hb' h' h2 (by omega)
    refine ⟨fun e => ?_, fun e => ?_⟩
    · subst e
      by_cases hk : Blk s hs
      · exact absurd (hy hk).2 ht9
      · exact better (s1 (hn hk))
    · by_cases ea : t = a
      · exact .inr (better (s1 ea))
      · rcases s2 ea with h3 | h3
        · have hiff := hB a c ea h3
          by_cases hlt : sum4 fp hs + 2 * remN n' R + sum4 f9 hs' < sum4 fp hs' + 2 * remN n R + sum4 f9 hs
          · exact .inr (.of hb' h' h3 (by omega))
          · refine .inl (.inl ⟨a, c, h3, by omega, fun hk => ?_, fun hk => hn fun k => hk (hiff.2 k)⟩)
            rw [hsame A fun e' => e e'.symm]
            exact hy (hiff.1 hk)
        · exact .inr (better h3)
  · exact absurd h0 hne
/-- A step that the queue does not see: it is nearer by one. -/
theorem RStep.down (hb' : RB s' hs') (h' : SI R s' (vh hs') n q sw' hd') (hv : VS.of s' (vh hs') = VS.of s (vh hs)) (hl : sum4 fp hs + sum4 f9 hs' < sum4 fp hs' + sum4 f9 hs) (h0 : remN n R = 0 → sum4 f9 hs' < sum4 f9 hs) : RStep s hs q n s' hs' q n R t := by
  intro A C hac
  have hb : RBetter s' hs' q n R C := by
    rcases hac with ⟨a, c, hc, he, _, _⟩ | ⟨hz, _, _, _, rfl⟩
    · exact .of hb' h' (hv ▸ hc) (by omega)
    · exact .zero hz (h0 hz)
  exact ⟨fun _ => hb, fun _ => .inr hb⟩
/-- Nothing has happened: it waits for readers. -/
theorem RStep.stay (h : SI R s (vh hs) n q sw hd) (hz : s'.zs = s.zs) (ht : t < 4) (h10 : (hs t).s = 10) (hw : (hs t).rd = false) (hr : s.zs.getD 7 0 ≠ 0) : RStep s hs q n s' hs q n R t := by
  have hv : VS.of s' (vh hs) = VS.of s (vh hs) := by unfold VS.of; rw [hz]
  have hk : Blk s hs := ⟨hr, t, ht, h10, hw⟩
  have hk' : Blk s' hs := ⟨by rw [hz]; exact hr, t, ht, h10, hw⟩
  intro A C hac
  rcases hac with ⟨a, c, hc, he, hy, hn⟩ | ⟨hz0, _, _, _, rfl⟩
  · refine ⟨fun e => ?_, fun e => .inl (.inl ⟨a, c, hv ▸ hc, he, fun _ => hy hk, fun e => absurd hk' e⟩)⟩
    subst e
    have := (hy hk).2.1
    rw [hw] at this
    exact absurd this (by decide)
  · have := h.pi.act t ht (by rw [vst]; unfold mst; rw [if_pos h10]; decide)
    have := remN_none hz0 ht
    omega
end

end Go.Proofs.Ytmcmajndcbobpaa
