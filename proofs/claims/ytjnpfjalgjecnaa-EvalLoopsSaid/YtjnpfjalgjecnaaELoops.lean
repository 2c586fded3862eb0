/-
  EvalLoops, walked.
-/
import Derived.Test.YtjnpfjalgjecnaaEIns
import Derived.IntWalk
import Derived.BigRegion
import Derived.OpenShut
namespace Go.Proofs.Ytjnpfjalgjecnaa
open Go.RowKit
set_option linter.unusedVariables false

def loopP : List Ins := [⟨1, 1, 0, 0, 1⟩, ⟨21, 0, 0, 0, 0⟩, ⟨3, 0, 0, 1, 0⟩, ⟨2, 3, 3, 1, 0⟩, ⟨22, 0, 0, 0, 0⟩]
def loopM : List Int := [-1, 4, -1, -1, 1]
theorem loop_mates : matesOf (opsOf loopP) = (loopM, -1) := by decide +kernel

/-- Where it stands, and with which registers, after so many steps. -/
def loopS (s0 : Int × Rg) : Nat → Int × Rg
  | 0 => s0
  | t + 1 => ((nextF loopP loopM (loopS s0 t).1 (loopS s0 t).2).1, (nextF loopP loopM (loopS s0 t).1 (loopS s0 t).2).2.1)
def yth (y : Int) : Nat → Int
  | 0 => y
  | j + 1 => wrap64 (yth y j + 1)
theorem yth_wrap (y : Int) (h : wrap64 y = y) (j : Nat) : yth y j = wrap64 (y + j) := by
  induction j with
  | zero => show y = wrap64 (y + 0); rw [Int.add_zero, h]
  | succ j ih =>
    show wrap64 (yth y j + 1) = _
    rw [ih]
    unfold wrap64
    omega

/-- A good step. -/
def Goes (s s' : Int × Rg) : Prop := nextF loopP loopM s.1 s.2 = (s'.1, s'.2, true) ∧ 0 ≤ s.1 ∧ s.1 < 5
theorem Goes.next {s0 : Int × Rg} {t : Nat} {s s' : Int × Rg} (h : loopS s0 t = s) (g : Goes s s') : loopS s0 (t + 1) = s' := by
  show ((nextF loopP loopM (loopS s0 t).1 (loopS s0 t).2).1, (nextF loopP loopM (loopS s0 t).1 (loopS s0 t).2).2.1) = _
  rw [h, g.1]

theorem goes0 (a x y : Int) : Goes (0, ⟨a, 0, x, y⟩) (1, ⟨a, 1, x, y⟩) := ⟨rfl, by simp, by simp⟩
theorem goes1 (a x y : Int) (h : a ≠ 0) : Goes (1, ⟨a, 1, x, y⟩) (2, ⟨a, 1, x, y⟩) := by
  refine ⟨?_, by simp, by simp⟩
  show ((if a = 0 then (4 : Int) + 1 else 1 + 1), _, _) = _
  rw [if_neg h]
  rfl
theorem goes1z (x y : Int) : Goes (1, ⟨0, 1, x, y⟩) (5, ⟨0, 1, x, y⟩) := ⟨rfl, by simp, by simp⟩
theorem goes2 (a x y : Int) (h : 1 ≤ a) (h2 : a ≤ 50) : Goes (2, ⟨a, 1, x, y⟩) (3, ⟨a - 1, 1, x, y⟩) := by
  refine ⟨?_, by simp, by simp⟩
  show ((2 : Int) + 1, Rg.mk (wrap64 (a - 1)) 1 x y, true) = _
  rw [show wrap64 (a - 1) = a - 1 by unfold wrap64; omega]
  rfl
theorem goes3 (a x y : Int) : Goes (3, ⟨a, 1, x, y⟩) (4, ⟨a, 1, x, wrap64 (y + 1)⟩) := ⟨rfl, by simp, by simp⟩
theorem goes4 (a x y : Int) : Goes (4, ⟨a, 1, x, y⟩) (1, ⟨a, 1, x, y⟩) := ⟨rfl, by simp, by simp⟩

theorem loop_head (K : Nat) (x y : Int) (hK : K ≤ 50) : ∀ j, j ≤ K → loopS (0, ⟨K, 0, x, y⟩) (1 + 4 * j) = (1, ⟨(K : Int) - j, 1, x, yth y j⟩) := by
  intro j
  induction j with
  | zero =>
    intro _
    have := (goes0 (K : Int) x y).next (s0 := (0, ⟨K, 0, x, y⟩)) (t := 0) rfl
    simpa [yth] using this
  | succ j ih =>
    intro hj
    have h1 := ih (by omega)
    have h2 := (goes1 ((K : Int) - j) x (yth y j) (by omega)).next h1
    have h3 := (goes2 ((K : Int) - j) x (yth y j) (by omega) (by omega)).next h2
    have h4 := (goes3 ((K : Int) - j - 1) x (yth y j)).next h3
    have h5 := (goes4 ((K : Int) - j - 1) x (wrap64 (yth y j + 1))).next h4
    rw [show 1 + 4 * (j + 1) = 1 + 4 * j + 1 + 1 + 1 + 1 by omega, h5]
    have e : (K : Int) - j - 1 = (K : Int) - (j + 1 : Nat) := by omega
    rw [e]
    rfl
/-- Each step ahead of the last one is good. -/
theorem loop_goes (K : Nat) (x y : Int) (hK : K ≤ 50) (t : Nat) (ht : t < 4 * K + 2) : Goes (loopS (0, ⟨K, 0, x, y⟩) t) (loopS (0, ⟨K, 0, x, y⟩) (t + 1)) := by
  rcases Nat.eq_zero_or_pos t with rfl | hp
  · rw [(goes0 (K : Int) x y).next (s0 := (0, ⟨K, 0, x, y⟩)) (t := 0) rfl]
    exact goes0 _ _ _
  · obtain ⟨j, q, rfl, hq⟩ : ∃ j q, t = 1 + 4 * j + q ∧ q < 4 := ⟨(t - 1) / 4, (t - 1) % 4, by omega, by omega⟩
    have h1 := loop_head K x y hK j (by omega)
    by_cases hj : j = K
    · subst hj
      obtain rfl : q = 0 := by omega
      rw [Int.sub_self] at h1
      rw [show 1 + 4 * j + 0 = 1 + 4 * j from rfl, (goes1z x (yth y j)).next h1, h1]
      exact goes1z _ _
    · have h2 := (goes1 ((K : Int) - j) x (yth y j) (by omega)).next h1
      have h3 := (goes2 ((K : Int) - j) x (yth y j) (by omega) (by omega)).next h2
      have h4 := (goes3 ((K : Int) - j - 1) x (yth y j)).next h3
      have h5 := (goes4 ((K : Int) - j - 1) x (wrap64 (yth y j + 1))).next h4
      have : q = 0 ∨ q = 1 ∨ q = 2 ∨ q = 3 := by omega
      rcases this with rfl | rfl | rfl | rfl
      · rw [show 1 + 4 * j + 0 = 1 + 4 * j from rfl, h2, h1]; exact goes1 _ _ _ (by omega)
      · rw [h3, h2]; exact goes2 _ _ _ (by omega) (by omega)
      · rw [show 1 + 4 * j + 2 = 1 + 4 * j + 1 + 1 by omega, h4, h3]; exact goes3 _ _ _
      · rw [show 1 + 4 * j + 3 = 1 + 4 * j + 1 + 1 + 1 by omega, h5, h4]; exact goes4 _ _ _
theorem loop_end (K : Nat) (x y : Int) (hK : K ≤ 50) (hy : wrap64 y = y) : loopS (0, ⟨K, 0, x, y⟩) (4 * K + 2) = (5, ⟨0, 1, x, wrap64 (y + K)⟩) := by
  have h1 := loop_head K x y hK K (Nat.le_refl _)
  rw [Int.sub_self] at h1
  have h2 := (goes1z x (yth y K)).next h1
  rw [show 4 * K + 2 = 1 + 4 * K + 1 by omega, h2, yth_wrap y hy]

structure LoopAt (w : World) (b off : Nat) (q : Rg) (h : Nat) (W : World) : Prop where
  prog : InsRow W (some ⟨w.heap.size, 0, none⟩) 5 loopP
  ms : IntRow W (some ⟨b, off, none⟩) 5 loopM
  box : W.heap[h]? = some (.cells q.cs 38 (0, 0))
  below : Below w.heap.size w W
  apart : w.heap.size < h ∧ b < h
theorem IntRow.keep {w w' : World} {a : Option Addr} {len : Nat} {zs : List Int} (h : IntRow w a len zs) (hb : ∀ x, a = some x → w'.heap[x.block]? = w.heap[x.block]?) : IntRow w' a len zs := by
  refine ⟨h.1, ?_⟩
  rcases h.2 with h | ⟨x, rfl, hc⟩
  · exact .inl h
  · refine .inr ⟨x, rfl, fun j hj => ?_⟩
    rw [World.cell?_of_block (w := w) (by rw [block_add]; exact hb x rfl)]
    exact hc j hj
theorem LoopAt.keep {w W W' : World} {b off h : Nat} {q : Rg} (hx : LoopAt w b off q h W) (hb : Below W.heap.size W W') : LoopAt w b off q h W' :=
  ⟨hx.prog.below hb, hx.ms.below hb, (hb.block _ (lt_of_block hx.box)).trans hx.box, bthen hx.below hb, hx.apart⟩
theorem LoopAt.put {w W : World} {b off h : Nat} {q q' : Rg} (hx : LoopAt w b off q h W) : LoopAt w b off q' h ((((W.setCell ⟨h, 0, none⟩ (.int .i64 q'.x0)).setCell ⟨h, 1, none⟩ (.int .i64 q'.x1)).setCell ⟨h, 2, none⟩ (.int .i64 q'.x2)).setCell ⟨h, 3, none⟩ (.int .i64 q'.x3)).drew := by
  have hne : ∀ (V : World) j u b, b ≠ h → (V.setCell ⟨h, j, none⟩ u).heap[b]? = V.heap[b]? := fun V j u b hb => Below.heap_setCell _ _ _ _ hb
  have ha := hx.apart
  refine ⟨?_, ?_, ?_, bdrew ((((hx.below.setCell (by dsimp only; omega) _).setCell (by dsimp only; omega) _).setCell (by dsimp only; omega) _).setCell (by dsimp only; omega) _), ha⟩
  · refine hx.prog.keep (by simp [World.drew]) fun x hx' => ?_
    cases hx'
    show (World.heap (World.setCell _ _ _))[_]? = _
    rw [hne _ _ _ _ (by dsimp only; omega), hne _ _ _ _ (by dsimp only; omega), hne _ _ _ _ (by dsimp only; omega), hne _ _ _ _ (by dsimp only; omega)]
  · refine hx.ms.keep fun x hx' => ?_
    cases hx'
    show (World.heap (World.setCell _ _ _))[_]? = _
    rw [hne _ _ _ _ (by dsimp only; omega), hne _ _ _ _ (by dsimp only; omega), hne _ _ _ _ (by dsimp only; omega), hne _ _ _ _ (by dsimp only; omega)]
  · exact blk_setCell (blk_setCell (blk_setCell (blk_setCell hx.box _ _) _ _) _ _) _ _

set_option maxRecDepth 100000 in
set_option maxHeartbeats 4000000 in
theorem loops_walk (n x y : Int) (w : World) (hy : wrap64 y = y) :
    Calls Try.prog 8 #[.int .i64 n, .int .i64 x, .int .i64 y] w fun e w' => e = .returned (.bool true) ∧ Below w.heap.size w w' := by
  have hp := u64_pos n
  obtain ⟨K, hK⟩ : ∃ K : Nat, IntKind.u64.wrap n % 51 = (K : Int) := ⟨(IntKind.u64.wrap n % 51).toNat, by omega⟩
  have hK50 : K ≤ 50 := by omega
  have k1 : (0 : Int) ≤ (K : Int) := by omega
  have k2 : (K : Int) ≤ 50 := by omega
  have HE := hid (loop_end K x y hK50 hy)
  have HG := hid (loop_goes K x y hK50)
  have H5 := hid (show 5 ≤ 100000 by decide)
  have HK := hid hK50
  clear hy hK50
  have HI := hid (InsRow.lit loopP 5 w 24 #[.int .i64 1, .int .i64 1, .int .i64 0, .int .i64 0, .int .i64 1, .int .i64 21, .int .i64 0, .int .i64 0, .int .i64 0, .int .i64 0, .int .i64 3, .int .i64 0, .int .i64 0, .int .i64 1, .int .i64 0, .int .i64 2, .int .i64 3, .int .i64 3, .int .i64 1, .int .i64 0, .int .i64 22, .int .i64 0, .int .i64 0, .int .i64 0, .int .i64 0] rfl rfl)
  go_enter Try.func8, Try.ntmps8
  go_upto_region 4 with (go_at_call 16; go_must ((with_reducible refine (Mates_any _ _ _ loopP _ HI.out H5.out).mono ?_); rintro e w1 hm; unfold MatesRet at hm; rw [loop_mates] at hm; change ∃ a c, e = Ending.returned (.tuple #[.slice a 5 c, .int .i64 (-1)]) ∧ IntRow w1 a 5 loopM ∧ _ ∧ _ at hm; obtain ⟨a, c, rfl, hr, hold, hb1⟩ := hm; obtain ⟨b, off, rfl, hlt, _⟩ := hr.at (by decide); have HW := hid (And.intro (HI.out.below hb1) (And.intro hr (And.intro (bthen (bnew (bid w) _) hb1) hlt))); clear hr hold hb1 hlt))
  clear HI hK hp
  go_upto_region 7 with fail
  have hbs := HW.out.2.2.1.size
  have hw1 : w.heap.size < w1.heap.size := by
    obtain ⟨b', off', e, hlt, _⟩ := HW.out.1.at (by decide)
    cases e
    exact hlt
  refine wp_rename (fun W => LoopAt w b off ⟨K, 0, x, y⟩ w1.heap.size W) ⟨HW.out.1.below (bnew (bid _) _), HW.out.2.1.below (bnew (bid _) _), heap_alloc_new _ _, bnew HW.out.2.2.1 _, hw1, HW.out.2.2.2⟩ ?_
  intro W hW
  have HV := hid hW
  clear hW HW hbs hw1
  have hmul : (4 : Int) * (K : Int) = 4 * K := rfl
  go_wp2
  go_loopw [11, 13] (fun a i wr => ∃ t : Nat, t ≤ 4 * K + 2 ∧ i = .int .i64 t ∧ a = .int .i64 (loopS (0, ⟨K, 0, x, y⟩) t).1 ∧ LoopAt w b off (loopS (0, ⟨K, 0, x, y⟩) t).2 w1.heap.size wr) (fun _ i _ => 4 * K + 2 - (intOf i).toNat)
  case atStart => exact ⟨0, by omega, rfl, rfl, HV.out⟩
  case round =>
    clear HV
    obtain ⟨t, ht, rfl, rfl, hx⟩ := hrel
    have HX := hid hx
    clear hx
    by_cases hlt : t < 4 * K + 2
    · obtain ⟨hg, g0, g1⟩ := HG.out t hlt
      obtain ⟨s, hs⟩ : ∃ s, loopS (0, ⟨K, 0, x, y⟩) t = s := ⟨_, rfl⟩
      obtain ⟨s', hs'⟩ : ∃ s', loopS (0, ⟨K, 0, x, y⟩) (t + 1) = s' := ⟨_, rfl⟩
      rw [hs, hs'] at hg
      rw [hs] at HX g0 g1 ⊢
      have HS' := hid hs'
      have HN := hid hg
      obtain ⟨at_, q0, q1, q2, q3⟩ := s
      obtain ⟨at', p0, p1, p2, p3⟩ := s'
      dsimp only at g0 g1 HN HX ⊢
      clear hs hs' hg
      have i1 : (0 : Int) ≤ (t : Int) := by omega
      have i2 : (t : Int) < 4 * (K : Int) + 2 := by omega
      have c0 := cell_of_blk HX.out.box 0
      have c1 := cell_of_blk HX.out.box 1
      have c2 := cell_of_blk HX.out.box 2
      have c3 := cell_of_blk HX.out.box 3
      simp only [Rg.cs, List.getElem?_toArray, List.getElem?_cons_zero, List.getElem?_cons_succ] at c0 c1 c2 c3
      clear hlt ht
      go_upto_region 15 with (go_at_call 18; go_must ((with_reducible refine (Next_any _ _ _ _ _ _ _ loopP loopM ⟨q0, q1, q2, q3⟩ _ HX.out.prog HX.out.ms H5.out).mono ?_); rintro e w2 hm; rw [HN.out] at hm; obtain ⟨rfl, hb2⟩ := hm; have HB2 := hid hb2; clear hb2))
      have hw2 := HB2.out.size
      refine wp_rename (fun V => LoopAt w b off ⟨q0, q1, q2, q3⟩ w1.heap.size V ∧ V.heap[w2.heap.size]? = some (.cells (Rg.cs ⟨p0, p1, p2, p3⟩) 38 (0, 0))) ⟨HX.out.keep (bnew HB2.out _), heap_alloc_new _ _⟩ ?_
      rintro V ⟨hV1, hV2⟩
      have HV := hid hV1
      clear hV1 HB2 c0 c1 c2 c3 HX hw2
      have d0 := cell_of_blk hV2 0
      have d1 := cell_of_blk hV2 1
      have d2 := cell_of_blk hV2 2
      have d3 := cell_of_blk hV2 3
      have e0 := cell_of_blk HV.out.box 0
      have e1 := cell_of_blk HV.out.box 1
      have e2 := cell_of_blk HV.out.box 2
      have e3 := cell_of_blk HV.out.box 3
      have f0 := frozen_of_blk HV.out.box 0
      have f1 := frozen_of_blk HV.out.box 1
      have f2 := frozen_of_blk HV.out.box 2
      have f3 := frozen_of_blk HV.out.box 3
      simp only [Rg.cs, List.getElem?_toArray, List.getElem?_cons_zero, List.getElem?_cons_succ] at d0 d1 d2 d3 e0 e1 e2 e3
      clear hV2
      go_region
      have HR := hid (HV.out.put (q' := ⟨p0, p1, p2, p3⟩))
      clear d0 d1 d2 d3 e0 e1 e2 e3 f0 f1 f2 f3
      go_wp2
      go_roundw
      case rel => exact ⟨t + 1, by omega, by go_num, by rw [HS'.out], by rw [HS'.out]; exact HR.out⟩
      case measure => simp [intOf]; omega
    · obtain rfl : t = 4 * K + 2 := by omega
      rw [HE.out] at HX ⊢
      dsimp only at HX ⊢
      rw [show ((4 * K + 2 : Nat) : Int) = 4 * (K : Int) + 2 by omega]
      clear ht hlt
      go_wp2_with (go_at_call 10; refine (told_any _).mono ?_; rintro e w4 ⟨rfl, hb4⟩; have HZ := hid (HX.out.keep hb4); clear hb4; have d0 := cell_of_blk HZ.out.box 0; have d2 := cell_of_blk HZ.out.box 2; have d3 := cell_of_blk HZ.out.box 3; simp only [Rg.cs, List.getElem?_toArray, List.getElem?_cons_zero, List.getElem?_cons_succ] at d0 d2 d3)
      go_ret
      exact ⟨rfl, HZ.out.below⟩

theorem wrap_of_wf {n : Int} (h : (Lit.int .i64 n).wf = true) : wrap64 n = n := by
  obtain ⟨h1, h2⟩ := bounds_i64 h
  exact IntWalk.wrap64_in _ ⟨h1, h2⟩

end Go.Proofs.Ytjnpfjalgjecnaa
