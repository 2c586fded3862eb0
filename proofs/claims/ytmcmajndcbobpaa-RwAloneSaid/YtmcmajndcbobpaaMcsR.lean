/-
  THE CONTRACTS of the document's own lock that is a queue: Id, node, McsLast.
-/
import Derived.Test.YtmcmajndcbobpaaMcsQ
namespace Go.Proofs.Ytmcmajndcbobpaa
open Go.RowKit
attribute [local go_sem] Later.cell Later.frozen

set_option maxHeartbeats 1000000 in
theorem rId_any (m : PM) (t l : Int) (w : World) :
    Calls Try.prog 62 #[m.v, .int .i64 t, .int .i64 l] w fun e w' => e = .returned (.int .i64 (idF m t l)) ∧ Below w.heap.size w w' := by
  have HM := hid (fun (x : World) => (show Calls Try.prog 37 #[m.v, (HD.mk t l 0 false 0).v] x _ from rMayH_any m ⟨t, l, 0, false, 0⟩ x))
  by_cases h : m.Ok ∧ 0 ≤ t ∧ t < m.t ∧ 0 ≤ l ∧ l < m.l
  · have hy : mayHB m ⟨t, l, 0, false, 0⟩ = true := mayHB_yes h
    have hb := node_bounds h.1 h.2.1 h.2.2.1 h.2.2.2.1 h.2.2.2.2
    have HF := hid (show idF m t l = 1 + t * m.l + l from by unfold idF; rw [if_pos h])
    rw [HF.out]
    simp only [hy] at HM
    obtain ⟨g1, g2, g3, g4⟩ := hb
    obtain ⟨ho, t0, t1, l0, l1⟩ := h
    have hl4 := ho.l2
    clear HF ho hy
    obtain ⟨s1, ml, mt, c, d⟩ := m
    simp only at g1 g2 g3 g4 t1 l1 hl4
    show Calls _ _ #[.agg #[.int .i64 s1, .int .i64 ml, .int .i64 mt, .int .i64 c, .int .i64 d], _, _] _ _
    go_enter Try.func62, Try.ntmps62
    go_wp2_with (go_at_call 37; (with_reducible refine (HM.out _).mono ?_); rintro e w1 ⟨rfl, hb1⟩; obtain ⟨hc1, hf1, hz1⟩ := bcell hb1 (size_alloc1 _ _); have HB1 := hid hb1; clear hb1)
    go_ret
    exact ⟨rfl, bthen (bnew (bid w) _) HB1.out⟩
  · have hy : mayHB m ⟨t, l, 0, false, 0⟩ = false := mayHB_no h
    have HF := hid (show idF m t l = 0 from by unfold idF; rw [if_neg h])
    rw [HF.out]
    simp only [hy] at HM
    clear h HF hy
    obtain ⟨s1, ml, mt, c, d⟩ := m
    show Calls _ _ #[.agg #[.int .i64 s1, .int .i64 ml, .int .i64 mt, .int .i64 c, .int .i64 d], _, _] _ _
    go_enter Try.func62, Try.ntmps62
    go_wp2_with (go_at_call 37; (with_reducible refine (HM.out _).mono ?_); rintro e w1 ⟨rfl, hb1⟩; have HB1 := hid hb1; clear hb1)
    go_ret
    exact ⟨rfl, bthen (bnew (bid w) _) HB1.out⟩

set_option maxRecDepth 100000 in
set_option maxHeartbeats 2000000 in
theorem rnode_any (m : PM) (l x p : Int) (w : World) (ho : m.Ok) :
    Calls Try.prog 63 #[m.v, .int .i64 l, .int .i64 x, .int .i64 p] w fun e w' => e = .returned (.int .i64 (nodeF m l x p)) ∧ Below w.heap.size w w' := by
  have HI := hid (fun (y : World) (k : Int) => rId_any m k l y)
  have HND := hid (fun (y : World) (k : Int) => refNode_any m k l p y)
  have HNF := hid (show ∀ o, m.node o l p = m.node o l p from fun _ => rfl)
  have HNN := hid (show m.node (-1) l p = -1 from node_neg (by omega))
  unfold nodeF
  generalize m.node = nd at *
  have HMI := hid (fun (k j : Nat) => @ownN_hit m l x k j)
  have HMS := hid (fun (k : Nat) => @ownN_miss m l x k)
  have H0 := hid (show ownN m l x 0 = -1 from rfl)
  have HMAP := hid (MapAt.new 29 w m)
  obtain ⟨N, hN⟩ : ∃ N : Nat, m.t = N := ⟨m.t.toNat, by have := ho.t1; omega⟩
  have hN4 : N ≤ 4 := by have := ho.t2; omega
  have HEND := hid (show ownN m l x N = -1 → ownF m l x = -1 from fun h => by rw [ownN_threads (k := N) (by omega) hN4, h])
  have HOW := hid (show ownF m l x = ownN m l x 4 from rfl)
  clear ho
  generalize ownN m l x = f at *
  generalize idF m = g at *
  generalize ownF m l x = o at *
  obtain ⟨s1, ml, mt, c, d⟩ := m
  simp only at hN
  subst hN
  show Calls _ _ #[.agg #[.int .i64 s1, .int .i64 ml, .int .i64 (N : Int), .int .i64 c, .int .i64 d], .int .i64 l, .int .i64 x, .int .i64 p] _ _
  go_enter Try.func63, Try.ntmps63
  go_upto_region 1 with fail
  refine wp_rename (fun W => MapAt 29 W w.heap.size ⟨s1, ml, N, c, d⟩ ∧ Below w.heap.size w W) ⟨HMAP.out, bnew (bid w) _⟩ ?_
  rintro W ⟨hk, hb⟩
  have HK := hid hk
  have HB := hid hb
  clear hk hb HMAP
  go_wp2_with fail
  go_loopw [9] (fun i W => ∃ k : Nat, k ≤ N ∧ i = .int .i64 k ∧ f k = -1 ∧ MapAt 29 W w.heap.size ⟨s1, ml, N, c, d⟩ ∧ Below w.heap.size w W) (fun i _ => N - (intOf i).toNat)
  case atStart => exact ⟨0, by omega, rfl, H0.out, HK.out, HB.out⟩
  case round =>
    clear HK HB
    obtain ⟨k, hk, rfl, hf, hm', hb⟩ := hrel
    have HK := hid hm'
    have HB := hid hb
    have HFK := hid hf
    obtain ⟨m0, m1, m2, m3, m4, _⟩ := hm'.facts
    clear hm' hb hf
    by_cases hlt : k < N
    · have i1 : (0 : Int) ≤ (k : Int) := by omega
      have i2 : (k : Int) < (N : Int) := by omega
      have i3 : (k : Int) < 4 := by omega
      have HIK := hid (fun (y : World) => HI.out y (k : Int))
      clear HI
      generalize hy : g k l = y at *
      have HY := hid hy
      clear hy
      by_cases hz0 : y = 0
      · subst hz0
        have HN := hid (HMS.out k HFK.out (fun h => h.1 (by rw [← h.2]; exact HY.out)))
        go_wp2_with (go_at_call 62; (with_reducible refine (HIK.out _).mono ?_); rintro e w1 ⟨rfl, hb1⟩; have HB1 := hid hb1; clear hb1)
        go_roundw
        case rel => exact ⟨k + 1, by omega, by go_num, HN.out, HK.out.below HB1.out, by have := HK.out.lt; exact HB.out.trans (HB1.out.mono (by omega))⟩
        case measure => simp [intOf]; omega
      · have hzn : (y != 0) = true := by simp [hz0]
        by_cases hyx : y = x
        · have hyxb : (y == x) = true := by simp [hyx]
          have HH := hid (show o = k from by rw [HOW.out]; exact HMI.out k 4 HFK.out (by rw [← hyx]; exact hz0) (by rw [HY.out]; exact hyx) (by omega))
          subst hyx
          have HNK := hid (fun (y : World) => HND.out y (k : Int))
          go_wp2_with (first | (go_at_call 62; (with_reducible refine (HIK.out _).mono ?_); rintro e w1 ⟨rfl, hb1⟩; have HB1 := hid hb1; clear hb1 m0 m1 m2 m3 m4; obtain ⟨m0, m1, m2, m3, m4, _⟩ := (HK.out.below HB1.out).facts) | (go_at_call 13; (with_reducible refine (HNK.out _).mono ?_); rintro e w2 ⟨rfl, hb2⟩; have HB2 := hid hb2; clear hb2))
          go_ret
          exact ⟨by rw [HH.out]; rfl, by have := HK.out.lt; exact HB.out.trans ((bthen HB1.out HB2.out).mono (by omega))⟩
        · have hyxb : (y == x) = false := by simp [hyx]
          have HN := hid (HMS.out k HFK.out (fun h => hyx (by rw [← HY.out]; exact h.2)))
          go_wp2_with (first | (go_at_call 62; (with_reducible refine (HIK.out _).mono ?_); rintro e w1 ⟨rfl, hb1⟩; have HB1 := hid hb1; clear hb1 m0 m1 m2 m3 m4; obtain ⟨m0, m1, m2, m3, m4, _⟩ := (HK.out.below HB1.out).facts))
          go_roundw
          case rel => exact ⟨k + 1, by omega, by go_num, HN.out, HK.out.below HB1.out, by have := HK.out.lt; exact HB.out.trans (HB1.out.mono (by omega))⟩
          case measure => simp [intOf]; omega
    · obtain rfl : k = N := by omega
      have HE := hid (HEND.out HFK.out)
      go_wp2_with fail
      go_ret
      exact ⟨by rw [HE.out, HNN.out]; rfl, HB.out⟩

end Go.Proofs.Ytmcmajndcbobpaa
