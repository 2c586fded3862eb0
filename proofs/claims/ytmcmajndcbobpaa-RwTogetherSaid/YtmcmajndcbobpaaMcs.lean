/-
  A lock that is a queue, in plain words; the contracts of its small parts: Id, whole, tail, owner, node, Last.
-/
import Derived.Test.YtmcmajndcbobpaaMcU
namespace Go.Proofs.Ytmcmajndcbobpaa
open Go.RowKit
attribute [local go_sem] Later.cell Later.frozen

/-- The number of the node that a thread has for a lock. -/
def idF (m : PM) (t l : Int) : Int := if m.Ok ∧ 0 ≤ t ∧ t < m.t ∧ 0 ≤ l ∧ l < m.l then 1 + t * m.l + l else 0
/-- The first of so many threads whose node has that number. -/
def ownN (m : PM) (l x : Int) : Nat → Int
  | 0 => -1
  | n + 1 => if ownN m l x n = -1 then (if x ≠ 0 ∧ idF m n l = x then n else -1) else ownN m l x n
def ownF (m : PM) (l x : Int) : Int := ownN m l x 4
/-- The place of a part of the node that has that number. -/
def nodeF (m : PM) (l x p : Int) : Int := m.node (ownF m l x) l p

theorem ownN_mono {m : PM} {l x : Int} {k j : Nat} (h : ownN m l x k ≠ -1) (hj : k ≤ j) : ownN m l x j = ownN m l x k := by
  induction j with
  | zero => obtain rfl : k = 0 := by omega
            rfl
  | succ j ih =>
    by_cases e : k = j + 1
    · rw [e]
    · have := ih (by omega)
      simp only [ownN]
      rw [this, if_neg h]
theorem ownN_hit {m : PM} {l x : Int} {k j : Nat} (h : ownN m l x k = -1) (hx : x ≠ 0) (hi : idF m k l = x) (hj : k < j) : ownN m l x j = k := by
  have e : ownN m l x (k + 1) = k := by simp only [ownN]; rw [if_pos h, if_pos ⟨hx, hi⟩]
  rw [← e]
  exact ownN_mono (by rw [e]; omega) hj
theorem ownN_miss {m : PM} {l x : Int} {k : Nat} (h : ownN m l x k = -1) (hn : ¬ (x ≠ 0 ∧ idF m k l = x)) : ownN m l x (k + 1) = -1 := by
  simp only [ownN]; rw [if_pos h, if_neg hn]
theorem ownN_range (m : PM) (l x : Int) (k : Nat) : ownN m l x k = -1 ∨ ∃ t : Nat, t < k ∧ ownN m l x k = t ∧ x ≠ 0 ∧ idF m t l = x := by
  induction k with
  | zero => exact .inl rfl
  | succ k ih =>
    simp only [ownN]
    rcases ih with h | ⟨t, h1, h2, h3, h4⟩
    · rw [if_pos h]
      by_cases c : x ≠ 0 ∧ idF m k l = x
      · rw [if_pos c]; exact .inr ⟨k, by omega, rfl, c.1, c.2⟩
      · rw [if_neg c]; exact .inl rfl
    · rw [if_neg (by omega), h2]
      exact .inr ⟨t, by omega, rfl, h3, h4⟩
theorem idF_out {m : PM} {t l : Int} (h : m.t ≤ t) : idF m t l = 0 := by unfold idF; rw [if_neg (by omega)]
/-- Threads that are none are not asked. -/
theorem ownN_threads {m : PM} {l x : Int} {k : Nat} (hk : m.t ≤ (k : Int)) (h4 : k ≤ 4) : ownF m l x = ownN m l x k := by
  unfold ownF
  obtain ⟨d, hd⟩ : ∃ d, 4 = k + d := ⟨4 - k, by omega⟩
  rw [hd]
  clear hd h4
  induction d with
  | zero => rfl
  | succ d ih =>
    show ownN m l x (k + d + 1) = _
    simp only [ownN]
    rw [ih]
    by_cases c : ownN m l x k = -1
    · rw [if_pos c, if_neg, c]
      rintro ⟨h1, h2⟩
      rw [idF_out (by omega)] at h2
      exact h1 h2.symm
    · rw [if_neg c]

theorem node_pos {m : PM} {t l p : Int} (h : m.Ok ∧ 0 ≤ t ∧ t < m.t ∧ 0 ≤ l ∧ l < m.l) (p0 : 0 ≤ p) (p1 : p < 2) : 0 ≤ m.node t l p ∧ m.node t l p < m.size := by
  obtain ⟨ho, t0, t1, l0, l1⟩ := h
  have hb := node_bounds ho t0 t1 l0 l1
  unfold PM.node
  rw [if_pos ⟨ho, t0, t1, l0, l1, p0, p1⟩, m.size_ok ho]
  have htl := m.tl ho
  obtain ⟨b1, b2, b3, b4⟩ := hb
  obtain ⟨s1, s2, l1', l2, t1, t2, c1, c2, d1, d2⟩ := ho
  obtain ⟨h1, h2⟩ := htl
  simp only [PM.from_]
  refine ⟨?_, ?_⟩ <;> omega
theorem node_neg {m : PM} {t l p : Int} (h : ¬ (m.Ok ∧ 0 ≤ t ∧ t < m.t ∧ 0 ≤ l ∧ l < m.l)) : m.node t l p = -1 := by
  unfold PM.node
  rw [if_neg]
  rintro ⟨a, b, c, d, e, _⟩
  exact h ⟨a, b, c, d, e⟩

set_option maxHeartbeats 1000000 in
theorem Id_any (m : PM) (t l : Int) (w : World) :
    Calls Try.prog 54 #[m.v, .int .i64 t, .int .i64 l] w fun e w' => e = .returned (.int .i64 (idF m t l)) ∧ Below w.heap.size w w' := by
  have HN := hid (fun (x : World) => Node_any m t l 0 x)
  by_cases h : m.Ok ∧ 0 ≤ t ∧ t < m.t ∧ 0 ≤ l ∧ l < m.l
  · have hp := (node_pos h (p := 0) (by decide) (by decide)).1
    have hb := node_bounds h.1 h.2.1 h.2.2.1 h.2.2.2.1 h.2.2.2.2
    have HF := hid (show idF m t l = 1 + t * m.l + l from by unfold idF; rw [if_pos h])
    rw [HF.out]
    generalize m.node t l 0 = p at *
    obtain ⟨g1, g2, g3, g4⟩ := hb
    obtain ⟨ho, t0, t1, l0, l1⟩ := h
    have hl4 := ho.l2
    clear HF ho
    obtain ⟨s1, ml, mt, c, d⟩ := m
    simp only at g1 g2 g3 g4 t1 l1 hl4
    show Calls _ _ #[.agg #[.int .i64 s1, .int .i64 ml, .int .i64 mt, .int .i64 c, .int .i64 d], _, _] _ _
    go_enter Try.func54, Try.ntmps54
    go_wp2_with (go_at_call 73; (with_reducible refine (HN.out _).mono ?_); rintro e w1 ⟨rfl, hb1⟩; obtain ⟨hc1, hf1, hz1⟩ := bcell hb1 (size_alloc1 _ _); have HB1 := hid hb1; clear hb1)
    go_ret
    exact ⟨rfl, bthen (bnew (bid w) _) HB1.out⟩
  · have hp := node_neg (p := 0) h
    rw [hp] at HN
    have HF := hid (show idF m t l = 0 from by unfold idF; rw [if_neg h])
    rw [HF.out]
    clear hp h HF
    obtain ⟨s1, ml, mt, c, d⟩ := m
    show Calls _ _ #[.agg #[.int .i64 s1, .int .i64 ml, .int .i64 mt, .int .i64 c, .int .i64 d], _, _] _ _
    go_enter Try.func54, Try.ntmps54
    go_wp2_with (go_at_call 73; (with_reducible refine (HN.out _).mono ?_); rintro e w1 ⟨rfl, hb1⟩; have HB1 := hid hb1; clear hb1)
    go_ret
    exact ⟨rfl, bthen (bnew (bid w) _) HB1.out⟩

set_option maxHeartbeats 1000000 in
theorem mwhole_any (m : PM) (w : World) (B b : Nat) (vw : Value) (s : MS) (h : Mem w B b vw s) :
    Calls Try.prog 55 #[m.v, .pointer (some ⟨b, 0, none⟩)] w fun e w' => e = .returned (.bool (decide (m.size ≤ (s.zs.length : Int)))) ∧ Below w.heap.size w w' := by
  have H := hid (fun (x : Later (w.alloc (.cells m.cells 26))) => (h.kept (Wrote.of_below (bthen (bnew (bid w) _) x.below) (fun _ => False)) (fun _ _ h => h) : Mem x.v B b vw s))
  clear h
  obtain ⟨s1, l, t, c, d⟩ := m
  show Calls _ _ #[.agg #[.int .i64 s1, .int .i64 l, .int .i64 t, .int .i64 c, .int .i64 d], _] _ _
  go_enter Try.func55, Try.ntmps55
  go_wp2_with fail
  refine wp_region_later (by kernel_rfl) (by kernel_rfl) ?_
  repeat (go_big_quiet_step (first | (go_at_call 47; with_reducible exact later_same (Len_any _ _ _ _ _ (H.out _))) | (go_at_call 69; with_reducible exact later_call (Size_any ⟨s1, l, t, c, d⟩ _))))
  refine wpQuiet_nil ?_
  rintro _ ⟨x, rfl⟩
  go_wp2
  go_ret
  exact ⟨rfl, bthen (bnew (bid w) _) x.below⟩
theorem mwhole_yes (m : PM) (w : World) (B b : Nat) (vw : Value) (s : MS) (h : Mem w B b vw s) (hz : m.size ≤ (s.zs.length : Int)) :
    Calls Try.prog 55 #[m.v, .pointer (some ⟨b, 0, none⟩)] w fun e w' => e = .returned (.bool true) ∧ Below w.heap.size w w' :=
  (mwhole_any m w B b vw s h).mono fun _ _ ⟨he, hb⟩ => ⟨by rw [he, decide_eq_true hz], hb⟩

set_option maxHeartbeats 1000000 in
theorem tail_any (m : PM) (l : Int) (w : World) :
    Calls Try.prog 58 #[m.v, .int .i64 l] w fun e w' => e = .returned (.int .i64 (m.at_ 3 l 0)) ∧ Below w.heap.size w w' := by
  have HK := hid (fun (x : World) => Lock_any m l 0 x)
  obtain ⟨s1, ml, t, c, d⟩ := m
  show Calls _ _ #[.agg #[.int .i64 s1, .int .i64 ml, .int .i64 t, .int .i64 c, .int .i64 d], _] _ _
  go_enter Try.func58, Try.ntmps58
  go_wp2_with (go_at_call 29; (with_reducible refine (HK.out _).mono ?_); rintro e w1 ⟨rfl, hb1⟩; have HB1 := hid hb1; clear hb1)
  go_ret
  exact ⟨rfl, bthen (bnew (bid w) _) HB1.out⟩

set_option maxHeartbeats 2000000 in
theorem owner_any (m : PM) (l x : Int) (w : World) :
    Calls Try.prog 74 #[m.v, .int .i64 l, .int .i64 x] w fun e w' => e = .returned (.int .i64 (ownF m l x)) ∧ Below w.heap.size w w' := by
  have HI := hid (fun (y : World) (k : Int) => Id_any m k l y)
  have HF := hid (show ownF m l x = ownN m l x 4 from rfl)
  rw [HF.out]
  clear HF
  have HMI := hid (fun (k j : Nat) => @ownN_hit m l x k j)
  have HMS := hid (fun (k : Nat) => @ownN_miss m l x k)
  have H0 := hid (show ownN m l x 0 = -1 from rfl)
  have HMAP := hid (MapAt.new 26 w m)
  generalize ownN m l x = f at *
  generalize idF m = g at *
  obtain ⟨s1, ml, t, c, d⟩ := m
  show Calls _ _ #[.agg #[.int .i64 s1, .int .i64 ml, .int .i64 t, .int .i64 c, .int .i64 d], _, _] _ _
  go_enter Try.func74, Try.ntmps74
  go_upto_region 1 with fail
  refine wp_rename (fun W => MapAt 26 W w.heap.size ⟨s1, ml, t, c, d⟩ ∧ Below w.heap.size w W) ⟨HMAP.out, bnew (bid w) _⟩ ?_
  rintro W ⟨hk, hb⟩
  have HK := hid hk
  have HB := hid hb
  clear hk hb HMAP
  go_wp2_with fail
  go_loopw [8] (fun i W => ∃ k : Nat, k ≤ 4 ∧ i = .int .i64 k ∧ f k = -1 ∧ MapAt 26 W w.heap.size ⟨s1, ml, t, c, d⟩ ∧ Below w.heap.size w W) (fun i _ => 4 - (intOf i).toNat)
  case atStart => exact ⟨0, by omega, rfl, H0.out, HK.out, HB.out⟩
  case round =>
    clear HK HB
    obtain ⟨k, hk, rfl, hf, hm, hb⟩ := hrel
    have HK := hid hm
    have HB := hid hb
    have HFK := hid hf
    obtain ⟨m0, m1, m2, m3, m4, _⟩ := hm.facts
    clear hm hb hf
    by_cases hlt : k < 4
    · have i1 : (0 : Int) ≤ (k : Int) := by omega
      have i2 : (k : Int) < 4 := by omega
      by_cases hx : x = 0
      · subst hx
        have HN := hid (HMS.out k HFK.out (fun h => h.1 rfl))
        go_wp2_with fail
        go_roundw
        case rel => exact ⟨k + 1, by omega, by go_num, HN.out, HK.out, HB.out⟩
        case measure => simp [intOf]; omega
      · have hxb : (x == 0) = false := by simpa using hx
        have hxn : (x != 0) = true := by simp [hx]
        have HIK0 := hid (fun (y : World) => HI.out y (k : Int))
        by_cases hi : g k l = x
        · have HN := hid (HMI.out k 4 HFK.out hx hi hlt)
          have HIK := hid (fun (y : World) => (show Calls _ _ _ y _ from by have := HIK0.out y; rw [hi] at this; exact this))
          clear hi
          go_wp2_with (go_at_call 54; (with_reducible refine (HIK.out _).mono ?_); rintro e w1 ⟨rfl, hb1⟩; have HB1 := hid hb1; clear hb1)
          go_ret
          exact ⟨by rw [HN.out]; rfl, by have := HK.out.lt; exact HB.out.trans (HB1.out.mono (by omega))⟩
        · have HN := hid (HMS.out k HFK.out (fun h => hi h.2))
          generalize g k l = y at *
          have hyb : (y == x) = false := by simpa using hi
          go_wp2_with (go_at_call 54; (with_reducible refine (HIK0.out _).mono ?_); rintro e w1 ⟨rfl, hb1⟩; have HB1 := hid hb1; clear hb1)
          go_roundw
          case rel => exact ⟨k + 1, by omega, by go_num, HN.out, HK.out.below HB1.out, by have := HK.out.lt; exact HB.out.trans (HB1.out.mono (by omega))⟩
          case measure => simp [intOf]; omega
    · obtain rfl : k = 4 := by omega
      go_wp2_with fail
      go_ret
      exact ⟨by rw [HFK.out]; rfl, HB.out⟩

set_option maxHeartbeats 1000000 in
theorem mnode_any (m : PM) (l x p : Int) (w : World) :
    Calls Try.prog 56 #[m.v, .int .i64 l, .int .i64 x, .int .i64 p] w fun e w' => e = .returned (.int .i64 (nodeF m l x p)) ∧ Below w.heap.size w w' := by
  have HO := hid (fun (y : World) => owner_any m l x y)
  have HN := hid (fun (y : World) => Node_any m (ownF m l x) l p y)
  have HF := hid (show nodeF m l x p = m.node (ownF m l x) l p from rfl)
  rw [HF.out]
  clear HF
  generalize ownF m l x = t at *
  generalize m.node t l p = r at *
  obtain ⟨s1, ml, mt, c, d⟩ := m
  show Calls _ _ #[.agg #[.int .i64 s1, .int .i64 ml, .int .i64 mt, .int .i64 c, .int .i64 d], _, _, _] _ _
  go_enter Try.func56, Try.ntmps56
  go_wp2_with fail
  refine wp_region_later (by kernel_rfl) (by kernel_rfl) ?_
  repeat (go_big_quiet_step (first | (go_at_call 74; with_reducible exact later_call (HO.out _)) | (go_at_call 73; with_reducible exact later_call (HN.out _))))
  refine wpQuiet_nil ?_
  rintro _ ⟨x, rfl⟩
  go_wp2
  go_ret
  exact ⟨rfl, bthen (bnew (bid w) _) x.below⟩

end Go.Proofs.Ytmcmajndcbobpaa
