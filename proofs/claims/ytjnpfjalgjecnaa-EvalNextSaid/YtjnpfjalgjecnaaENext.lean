/-
  EvalNext, walked.
-/
import Derived.Test.YtjnpfjalgjecnaaBlocks
import Derived.Test.YtjnpfjalgjecnaaRNext3
import Derived.Test.YtjnpfjalgjecnaaEqr
import Derived.StillTailTactics
namespace Go.Proofs.Ytjnpfjalgjecnaa
open Go.RowKit
set_option linter.unusedVariables false
attribute [local go_sem] Later.cell Later.frozen

theorem insCells_cons (p : Ins) (l : List Ins) : insCells (p :: l) = .int .i64 p.op :: .int .i64 p.a :: .int .i64 p.b :: .int .i64 p.c :: .int .i64 p.n :: insCells l := by simp [insCells]
theorem insCells_set : ∀ (ps : List Ins) (k : Nat) (i : Ins), k < ps.length →
    (((((insCells ps).set (k * 5) (.int .i64 i.op)).set (k * 5 + 1) (.int .i64 i.a)).set (k * 5 + 2) (.int .i64 i.b)).set (k * 5 + 3) (.int .i64 i.c)).set (k * 5 + 4) (.int .i64 i.n) = insCells (ps.set k i) := by
  intro ps
  induction ps with
  | nil => intro k i h; simp at h
  | cons p l ih =>
    intro k i h
    cases k with
    | zero => simp [insCells_cons]
    | succ k =>
      have := ih k i (by simpa using h)
      rw [List.set_cons_succ, insCells_cons, insCells_cons, ← this]
      rw [show (k + 1) * 5 + 4 = k * 5 + 4 + 1 + 1 + 1 + 1 + 1 by omega, show (k + 1) * 5 + 3 = k * 5 + 3 + 1 + 1 + 1 + 1 + 1 by omega, show (k + 1) * 5 + 2 = k * 5 + 2 + 1 + 1 + 1 + 1 + 1 by omega, show (k + 1) * 5 + 1 = k * 5 + 1 + 1 + 1 + 1 + 1 + 1 by omega, show (k + 1) * 5 = k * 5 + 1 + 1 + 1 + 1 + 1 by omega]
      simp only [List.set_cons_succ]

/-- The boxes of the arguments, and six instructions, whichever. -/
structure NxS (w : World) (ks : Array Value) (r : Rg) (W : World) : Prop where
  ks : W.heap[w.heap.size]? = some (.cells ks 22 (0, 0))
  rs : W.heap[w.heap.size + 1]? = some (.cells r.cs 38 (0, 0))
  row : ∃ ps : List Ins, ps.length = 6 ∧ W.ownsRow (w.heap.size + 1 + 1) 24 5 (.slice (some ⟨w.heap.size + 1 + 1, 0, none⟩) 6 6) 6 (insCells ps)
  below : Below w.heap.size w W
theorem NxS.keep {w W W' : World} {ks : Array Value} {r : Rg} (h : NxS w ks r W) (hb : Below W.heap.size W W') : NxS w ks r W' := by
  obtain ⟨ps, h1, h2⟩ := h.row
  exact ⟨(hb.block _ (lt_of_block h.ks)).trans h.ks, (hb.block _ (lt_of_block h.rs)).trans h.rs, ⟨ps, h1, own_wrote h2 (Wrote.of_below hb (fun _ => False)) (fun _ _ h => h)⟩, bthen h.below hb⟩
/-- What was written elsewhere. -/
theorem NxS.wrote {w W W' : World} {ks : Array Value} {r : Rg} {g : Nat} (h : NxS w ks r W) (hw : Wrote (fun b => b = g) W W') (hg : w.heap.size + 1 + 1 < g) : NxS w ks r W' := by
  obtain ⟨ps, h1, h2⟩ := h.row
  refine ⟨(hw.block _ (lt_of_block h.ks) (by omega)).trans h.ks, (hw.block _ (lt_of_block h.rs) (by omega)).trans h.rs, ⟨ps, h1, own_wrote h2 hw (fun x hx => by cases hx; show ¬ (_ = g); dsimp only; omega)⟩, h.below.trans (hw.below h.below.size fun j hj e => by omega)⟩
theorem NxS.put {w W : World} {ks : Array Value} {r : Rg} (h : NxS w ks r W) (k : Nat) (hk : k < 6) (a b c d e : Int) :
    NxS w ks r (((((W.setCell ⟨w.heap.size + 1 + 1, k * 5, none⟩ (.int .i64 a)).setCell ⟨w.heap.size + 1 + 1, k * 5 + 1, none⟩ (.int .i64 b)).setCell ⟨w.heap.size + 1 + 1, k * 5 + 2, none⟩ (.int .i64 c)).setCell ⟨w.heap.size + 1 + 1, k * 5 + 3, none⟩ (.int .i64 d)).setCell ⟨w.heap.size + 1 + 1, k * 5 + 4, none⟩ (.int .i64 e)) := by
  obtain ⟨ps, h1, h2⟩ := h.row
  have hne : ∀ (V : World) j u x, x ≠ w.heap.size + 1 + 1 → (V.setCell ⟨w.heap.size + 1 + 1, j, none⟩ u).heap[x]? = V.heap[x]? := fun V j u x hx => Below.heap_setCell _ _ _ _ hx
  refine ⟨?_, ?_, ⟨ps.set k ⟨a, b, c, d, e⟩, by simpa using h1, ?_⟩, ((((h.below.setCell (by dsimp only; omega) _).setCell (by dsimp only; omega) _).setCell (by dsimp only; omega) _).setCell (by dsimp only; omega) _).setCell (by dsimp only; omega) _⟩
  · rw [hne _ _ _ _ (by omega), hne _ _ _ _ (by omega), hne _ _ _ _ (by omega), hne _ _ _ _ (by omega), hne _ _ _ _ (by omega)]
    exact h.ks
  · rw [hne _ _ _ _ (by omega), hne _ _ _ _ (by omega), hne _ _ _ _ (by omega), hne _ _ _ _ (by omega), hne _ _ _ _ (by omega)]
    exact h.rs
  · rw [← insCells_set ps k ⟨a, b, c, d, e⟩ (by omega)]
    exact (World.ownsRow.stored (World.ownsRow.stored (World.ownsRow.stored (World.ownsRow.stored (World.ownsRow.stored h2 (k * 5) (.int .i64 a)).1 (k * 5 + 1) (.int .i64 b)).1 (k * 5 + 2) (.int .i64 c)).1 (k * 5 + 3) (.int .i64 d)).1 (k * 5 + 4) (.int .i64 e)).1
/-- What can be read of one of the six. -/
theorem NxS.at {w W : World} {ks : Array Value} {r : Rg} (h : NxS w ks r W) (k : Nat) (hk : k < 6) : ∃ i : Ins, InsAt W (w.heap.size + 1 + 1) (k * 5) i ∧ ∀ j, W.frozen? ⟨w.heap.size + 1 + 1, j, none⟩ = false := by
  obtain ⟨ps, h1, h2⟩ := h.row
  obtain ⟨i, hi⟩ : ∃ i, ps[k]? = some i := ⟨_, List.getElem?_eq_getElem (by omega)⟩
  have hr := InsRow.of_own h2
  obtain ⟨b, off, e, _, hc⟩ := hr.at (by decide)
  cases e
  have := hc k i hi
  rw [Nat.zero_add] at this
  exact ⟨i, this, fun j => h2.frozenAt j⟩
theorem NxS.prog {w W : World} {ks : Array Value} {r : Rg} (h : NxS w ks r W) : ∃ ps : List Ins, InsRow W (some ⟨w.heap.size + 1 + 1, 0, none⟩) 6 ps := by
  obtain ⟨ps, _, h2⟩ := h.row
  exact ⟨ps, .of_own h2⟩
/-- Mates of the call's own beside them. -/
structure NxM (w : World) (ks : Array Value) (r : Rg) (m : Nat) (v : Value) (W : World) : Prop where
  at_ : NxS w ks r W
  ms : ∃ g c zs, v = .slice (some ⟨g, 0, none⟩) m c ∧ zs.length = m ∧ Ints 3 W (w.heap.size + 1 + 1 + 1) g c zs
theorem NxM.keep {w W W' : World} {ks : Array Value} {r : Rg} {m : Nat} {v : Value} (h : NxM w ks r m v W) (hb : Below W.heap.size W W') : NxM w ks r m v W' := by
  obtain ⟨g, c, zs, h1, h2, h3⟩ := h.ms
  exact ⟨h.at_.keep hb, g, c, zs, h1, h2, h3.below hb⟩
theorem NxM.row {w W : World} {ks : Array Value} {r : Rg} {m : Nat} {v : Value} (h : NxM w ks r m v W) : ∃ a c ms, v = .slice a m c ∧ IntRow W a m ms := by
  obtain ⟨g, c, zs, h1, h2, h3⟩ := h.ms
  subst h2
  exact ⟨_, c, zs, h1, rfl, .inr ⟨_, rfl, fun j hj => by rw [add_at, Nat.zero_add]; exact h3.cell hj⟩⟩

theorem NxS.keepB {w W W' : World} {ks : Array Value} {r : Rg} (h : NxS w ks r W) (hb : Below (w.heap.size + 1 + 1 + 1) W W') : NxS w ks r W' := by
  obtain ⟨ps, h1, h2⟩ := h.row
  refine ⟨(hb.block _ (by omega)).trans h.ks, (hb.block _ (by omega)).trans h.rs, ⟨ps, h1, h2.1, ?_⟩, h.below.trans (hb.mono (by omega))⟩
  rcases h2.2 with ⟨e, _⟩ | ⟨g, cap, cur, e, e1, e2, e3⟩
  · cases e
  · cases e
    exact .inr ⟨_, _, cur, rfl, e1, (hb.block _ (by omega)).trans e2, e3⟩
theorem NxM.store {w W : World} {ks : Array Value} {r : Rg} {m g c : Nat} (h : NxM w ks r m (.slice (some ⟨g, 0, none⟩) m c) W) (j : Nat) (x : Int) : NxM w ks r m (.slice (some ⟨g, 0, none⟩) m c) (W.setCell ⟨g, j, none⟩ (.int .i64 x)) := by
  obtain ⟨g', c', zs, e, h2, h3⟩ := h.ms
  cases e
  have hlt := h3.lt
  exact ⟨h.at_.wrote (g := g) (wone (Wrote.refl _ W) _ _) (by omega), g, c, _, rfl, by rw [List.length_set]; exact h2, h3.store j x⟩
theorem NxM.word {w W : World} {ks : Array Value} {r : Rg} {m g c : Nat} (h : NxM w ks r m (.slice (some ⟨g, 0, none⟩) m c) W) (j : Nat) (hj : j < m) : ∃ x, W.cell? ⟨g, j, none⟩ = some (.int .i64 x) ∧ W.frozen? ⟨g, j, none⟩ = false := by
  obtain ⟨g', c', zs, e, h2, h3⟩ := h.ms
  cases e
  exact ⟨_, h3.cell (by omega), h3.frozen j⟩
theorem madeIns : (madeCells (Value.agg #[.int .i64 0, .int .i64 0, .int .i64 0, .int .i64 0, .int .i64 0]).cells (6 * 5)).toList = insCells (List.replicate 6 ⟨0, 0, 0, 0, 0⟩) := by kernel_rfl

set_option maxRecDepth 100000 in
set_option maxHeartbeats 8000000 in
theorem next_walk (k0 k1 k2 k3 n : Int) (raw : Bool) (at_ mate r0 r1 r2 r3 : Int) (w : World) :
    Calls Try.prog 6 #[.agg #[.int .i64 k0, .int .i64 k1, .int .i64 k2, .int .i64 k3], .int .i64 n, .bool raw, .int .i64 at_, .int .i64 mate, .agg #[.int .i64 r0, .int .i64 r1, .int .i64 r2, .int .i64 r3]] w fun e w' => e = .returned (.bool true) ∧ Below w.heap.size w w' := by
  obtain ⟨iI, hi, hz0, hz1, hz2⟩ := info_parts infoIns
  obtain ⟨iJ, hi', hy0, hy1, hy2⟩ := info_parts infoInt
  have hp := u64_pos at_
  have hq := u64_pos mate
  have E1 : Hid ((6 : Int) = ((6 : Nat) : Int)) := hid rfl
  have E2 : Hid (iI.bytes * 6 ≤ 281474976710656) := hid (by rw [hz2]; omega)
  have E3 : Hid (6 ≤ maxLen) := hid (by unfold maxLen; omega)
  have HX := hid (Boxes.new w ⟨0, 0, 0, 0, 0⟩ ⟨r0, r1, r2, r3⟩ 24 38)
  clear HX
  go_enter Try.func6, Try.ntmps6
  go_upto_region 2 with (at_make; go_must (refine wpList_make_full _ rfl _ _ 32 rfl (w.heap.size + 1 + 1) 24 iI (.agg #[.int .i64 0, .int .i64 0, .int .i64 0, .int .i64 0, .int .i64 0]) 5 Try.underlying32 hi hz0 hz1 .i64 .i64 _ _ 6 rfl rfl E1.out E1.out E2.out E3.out (by rw [size_alloc2]; exact Nat.le_refl _) ?_); intro w1 hown hg1; rw [size_alloc2] at hown; have HO := hid hown; clear hown)
  have HX : Hid (NxS w #[.int .i64 k0, .int .i64 k1, .int .i64 k2, .int .i64 k3] ⟨r0, r1, r2, r3⟩ w1) := hid (by
    have hb : Below ((w.alloc (.cells #[.int .i64 k0, .int .i64 k1, .int .i64 k2, .int .i64 k3] 22)).alloc (.cells #[.int .i64 r0, .int .i64 r1, .int .i64 r2, .int .i64 r3] 38)).heap.size _ w1 := (Below.refl _ _).grown hg1 (Nat.le_refl _) (by simp)
    refine ⟨?_, ?_, ⟨List.replicate 6 ⟨0, 0, 0, 0, 0⟩, rfl, by rw [← madeIns]; exact HO.out⟩, bthen (bnew (bnew (bid w) _) _) hb⟩
    · rw [hb.block _ (by simp; omega), Below.heap_alloc _ _ _ (by simp)]
      exact heap_alloc_new _ _
    · rw [hb.block _ (by simp)]
      have := heap_alloc_new (w.alloc (.cells #[.int .i64 k0, .int .i64 k1, .int .i64 k2, .int .i64 k3] 22)) (.cells (Rg.cs ⟨r0, r1, r2, r3⟩) 38)
      rw [size_alloc1] at this
      exact this)
  clear hg1 HO E1 E2 E3
  generalize hks : (#[.int .i64 k0, .int .i64 k1, .int .i64 k2, .int .i64 k3] : Array Value) = ks at HX
  have HKS := hid hks
  clear hks
  go_wp2
  go_loopw [14] (fun i wr => ∃ k : Nat, k ≤ 6 ∧ i = .int .i64 k ∧ NxS w ks ⟨r0, r1, r2, r3⟩ wr) (fun i _ => 6 - (intOf i).toNat)
  case atStart => exact ⟨0, by omega, rfl, HX.out⟩
  case round =>
    clear HX
    obtain ⟨k, hk, rfl, hx⟩ := hrel
    have HX := hid hx
    clear hx
    by_cases hlt : k < 6
    · have j1 : (0 : Int) ≤ (k : Int) := by omega
      have j2 : (k : Int) < 6 := by omega
      obtain ⟨i, ⟨c0, c1, c2, c3, c4⟩, hf⟩ := HX.out.at k hlt
      have f0 := hf (k * 5)
      have f1 := hf (k * 5 + 1)
      have f2 := hf (k * 5 + 2)
      have f3 := hf (k * 5 + 3)
      have f4 := hf (k * 5 + 4)
      have HN := hid (HX.out.put k hlt 20 0 0 0 0)
      clear hf
      go_wp2
      first
        | exact ⟨⟨k + 1, by omega, by go_num, HN.out⟩, by simp [intOf]; omega⟩
        | (go_roundw
           case rel => exact ⟨k + 1, by omega, by go_num, HN.out⟩
           case measure => simp [intOf]; omega)
    · obtain rfl : k = 6 := by omega
      clear hk hlt
      obtain ⟨wh, hwh⟩ : ∃ wh : Nat, IntKind.u64.wrap at_ % 8 = (wh : Int) := ⟨(IntKind.u64.wrap at_ % 8).toNat, by omega⟩
      have h1 : (0 : Int) ≤ (wh : Int) := by omega
      have h2 : (wh : Int) < 8 := by omega
      go_upto_region 7 with fail
      have HWH := hid hwh
      clear hwh
      go_upto_if 38 with fail
      go_cut [] (fun wx => NxS w ks ⟨r0, r1, r2, r3⟩ wx)
      case first =>
        by_cases h6 : (wh : Int) < 6
        · have HWL := hid (show wh < 6 by omega)
          have d0 : wr.cell? ⟨w.heap.size, 0, none⟩ = some (.int .i64 k0) := by rw [cell_of_blk HX.out.ks 0, ← HKS.out]; rfl
          have d1 : wr.cell? ⟨w.heap.size, 1, none⟩ = some (.int .i64 k1) := by rw [cell_of_blk HX.out.ks 1, ← HKS.out]; rfl
          have d2 : wr.cell? ⟨w.heap.size, 2, none⟩ = some (.int .i64 k2) := by rw [cell_of_blk HX.out.ks 2, ← HKS.out]; rfl
          have d3 : wr.cell? ⟨w.heap.size, 3, none⟩ = some (.int .i64 k3) := by rw [cell_of_blk HX.out.ks 3, ← HKS.out]; rfl
          go_wp2_with (go_at_call 9; go_must (refine (Instr_any _ _ _ _ _ _ _).mono ?_; rintro e w2 ⟨⟨⟨op, ia, ib, ic, iN⟩, rfl⟩, hb2⟩; have HX2 := hid (HX.out.keep hb2); clear hb2; obtain ⟨i, ⟨c0, c1, c2, c3, c4⟩, hf⟩ := HX2.out.at wh HWL.out; have f0 := hf (wh * 5); have f1 := hf (wh * 5 + 1); have f2 := hf (wh * 5 + 2); have f3 := hf (wh * 5 + 3); have f4 := hf (wh * 5 + 4); clear hf))
          go_meet
          case rel => exact HX2.out.put wh HWL.out op ia ib ic iN
        · go_wp2
          go_meet
          case rel => exact HX.out
      case rest =>
        have HS := hid hcut
        clear hcut HX
        go_upto_region 10 with fail
        have HWC : Hid (w.heap.size + 1 + 1 + 1 ≤ wc.heap.size) := hid (by obtain ⟨ps, _, h⟩ := HS.out.row; exact (h.lt _ rfl).2)
        refine wp_rename (fun W => NxM w ks ⟨r0, r1, r2, r3⟩ 5 (.slice (some ⟨wc.heap.size, 0, none⟩) 5 5) W) ⟨HS.out.keep (bnew (bid _) _), wc.heap.size, 5, [-1, -1, -1, -1, -1], rfl, rfl, Ints.lit [-1, -1, -1, -1, -1] wc _ _ rfl (by obtain ⟨ps, _, h⟩ := HS.out.row; exact (h.lt _ rfl).2) (by decide)⟩ ?_
        intro W hW
        have HM := hid hW
        clear hW HS
        have ha : 0 ≤ IntKind.u64.wrap at_ % 9 := by omega
        go_upto_if 50 with fail
        go_cut [16] (fun s16 wx => ∃ m : Nat, 5 ≤ m ∧ m ≤ 6 ∧ NxM w ks ⟨r0, r1, r2, r3⟩ m s16 wx)
        case first =>
          by_cases h9 : 0 < IntKind.u64.wrap at_ % 9
          · have HI := hid (Ints.lit (B := w.heap.size + 1 + 1 + 1) [-1, -1, -1, -1, -1] wc 3 #[.int .i64 (-1), .int .i64 (-1), .int .i64 (-1), .int .i64 (-1), .int .i64 (-1)] rfl HWC.out (by decide))
            have HB5 : Hid (w.heap.size + 1 + 1 + 1 ≤ W.heap.size) := hid (by have := HM.out.at_.below.size; obtain ⟨g, c, zs, e, _, h⟩ := HM.out.ms; have := h.lt; omega)
            obtain ⟨g5, c5, zs5, e5, hl5, hI5⟩ := HM.out.ms
            obtain ⟨za, zb, zc, zd, ze, rfl⟩ : ∃ za zb zc zd ze, zs5 = [za, zb, zc, zd, ze] := by
              match zs5, hl5 with
              | [a, b, c, d, e], _ => exact ⟨a, b, c, d, e, rfl⟩
            cases e5
            have HI5 := hid hI5
            clear hI5 hl5 HI
            go_wp2_with (at_builtin; go_must (refine wpList_append_lit rfl (.tmp 51) (.tmp 52) 31 rfl Try.underlying31 hi' hy0 hy1 hy2 rfl HI5.out [-1] 1 1 rfl rfl rfl (by show 5 + 1 ≤ 1000000; decide) HB5.out (by show 0 < 5; decide) ?_; intro g' cap' w' hown' hbl'; have HN : Hid (NxM w ks ⟨r0, r1, r2, r3⟩ 6 (.slice (some ⟨g', 0, none⟩) 6 cap') w') := hid ⟨(HM.out.at_.keep (bnew (bid _) _)).keepB hbl', g', cap', _, rfl, rfl, hown'⟩; clear hown' hbl'))
            go_meet
            case rel => exact ⟨6, by omega, by omega, HN.out⟩
          · have h9' : decide (0 < IntKind.u64.wrap at_ % 9) = false := decide_eq_false h9
            go_wp2
            go_meet
            case rel => exact ⟨5, by omega, by omega, HM.out⟩
        case rest =>
          obtain ⟨m, hm5, hm6, hM⟩ := hcut
          obtain ⟨g, c, zs, rfl, hl, hI⟩ := hM.ms
          have HN := hid hM
          clear hM hI hl HM ha
          have i5 : (5 : Int) ≤ (m : Int) := by omega
          have i6 : (m : Int) ≤ 6 := by omega
          go_upto_if 57 with fail
          go_cut [] (fun wx => NxM w ks ⟨r0, r1, r2, r3⟩ m (.slice (some ⟨g, 0, none⟩) m c) wx)
          case first =>
            by_cases hwm : (wh : Int) < (m : Int)
            · obtain ⟨x, hx, hf⟩ := HN.out.word wh (by omega)
              have HN2 := hid (HN.out.store wh mate)
              have hmm : 0 ≤ IntKind.u64.wrap mate % 4 := by omega
              have hm7 : 0 ≤ IntKind.u64.wrap mate / 4 % 6 := by omega
              have hm8 : IntKind.u64.wrap mate / 4 % 6 < 6 := by omega
              by_cases h4 : 0 < IntKind.u64.wrap mate % 4
              · have h4' : decide (0 < IntKind.u64.wrap mate % 4) = true := decide_eq_true h4
                go_wp2
                go_meet
                case rel => exact HN2.out.store wh _
              · have h4' : decide (0 < IntKind.u64.wrap mate % 4) = false := decide_eq_false h4
                go_wp2
                go_meet
                case rel => exact HN2.out
            · go_wp2
              go_meet
              case rel => exact HN.out
          case rest =>
            have HN := hid hcut
            clear hcut
            go_upto_if 75 with fail
            go_cut [15] (fun s15 wx => ∃ x : Int, s15 = .int .i64 x ∧ NxM w ks ⟨r0, r1, r2, r3⟩ m (.slice (some ⟨g, 0, none⟩) m c) wx)
            case first =>
              by_cases h7 : ((wh : Int) == 7) = true
              · go_wp2
                go_meet
                case rel => exact ⟨_, rfl, HN.out⟩
              · have h7' : ((wh : Int) == 7) = false := by simpa using h7
                go_wp2
                go_meet
                case rel => exact ⟨_, rfl, HN.out⟩
            case rest =>
              obtain ⟨x, rfl, hX⟩ := hcut
              have HX := hid hX
              clear hX HN HWH hp hq h1 h2 i5 i6
              obtain ⟨ps, hP⟩ := HX.out.at_.prog
              obtain ⟨ma, mc, ms, me, hR⟩ := HX.out.row
              cases me
              have HP := hid hP
              have HR := hid hR
              have H6 := hid (show 6 ≤ 100000 by decide)
              obtain ⟨⟨ta, ⟨t0, t1, t2, t3⟩, tb⟩, hT⟩ : ∃ T, nextF ps ms x ⟨r0, r1, r2, r3⟩ = T := ⟨_, rfl⟩
              have HT := hid hT
              clear hP hR hT
              have d0 := cell_of_blk HX.out.at_.rs 0
              have d1 := cell_of_blk HX.out.at_.rs 1
              have d2 := cell_of_blk HX.out.at_.rs 2
              have d3 := cell_of_blk HX.out.at_.rs 3
              simp only [Rg.cs, List.getElem?_toArray, List.getElem?_cons_zero, List.getElem?_cons_succ] at d0 d1 d2 d3
              go_upto_region 19 with (go_at_call 18; go_must ((with_reducible refine (Next_any _ _ _ _ _ _ _ ps ms ⟨r0, r1, r2, r3⟩ _ HP.out HR.out H6.out).mono ?_); rintro e w2 hm; rw [HT.out] at hm; obtain ⟨rfl, hb2⟩ := hm; have HB2 := hid hb2; clear hb2))
              refine wp_rename (fun V => (NxS w ks ⟨r0, r1, r2, r3⟩ V ∧ InsRow V (some ⟨w.heap.size + 1 + 1, 0, none⟩) 6 ps ∧ IntRow V (some ⟨g, 0, none⟩) m ms) ∧ V.heap[w2.heap.size]? = some (.cells (Rg.cs ⟨t0, t1, t2, t3⟩) 38 (0, 0))) ⟨⟨HX.out.at_.keep (bnew HB2.out _), HP.out.below (bnew HB2.out _), HR.out.below (bnew HB2.out _)⟩, heap_alloc_new _ _⟩ ?_
              intro V hV
              have HV := hid hV
              clear hV HB2 HX HP HR d0 d1 d2 d3
              have d0 := cell_of_blk HV.out.1.1.rs 0
              have d1 := cell_of_blk HV.out.1.1.rs 1
              have d2 := cell_of_blk HV.out.1.1.rs 2
              have d3 := cell_of_blk HV.out.1.1.rs 3
              simp only [Rg.cs, List.getElem?_toArray, List.getElem?_cons_zero, List.getElem?_cons_succ] at d0 d1 d2 d3
              go_upto_region 20 with (go_at_call 19; go_must ((with_reducible refine (refNext_any _ _ _ _ _ _ _ ps ms ⟨r0, r1, r2, r3⟩ _ HV.out.1.2.1 HV.out.1.2.2 H6.out).mono ?_); rintro e w3 hm; rw [HT.out] at hm; obtain ⟨rfl, hb3⟩ := hm; have HB3 := hid hb3; clear hb3))
              refine wp_rename (fun U => NxS w ks ⟨r0, r1, r2, r3⟩ U ∧ U.heap[w2.heap.size]? = some (.cells (Rg.cs ⟨t0, t1, t2, t3⟩) 38 (0, 0)) ∧ U.heap[w3.heap.size]? = some (.cells (Rg.cs ⟨t0, t1, t2, t3⟩) 38 (0, 0))) ⟨HV.out.1.1.keep (bnew HB3.out _), ((bnew HB3.out _).block _ (lt_of_block HV.out.2)).trans HV.out.2, heap_alloc_new _ _⟩ ?_
              intro U hU
              have HU := hid hU
              clear hU HB3 HV d0 d1 d2 d3 HT
              have d0 : U.cell? ⟨w.heap.size, 0, none⟩ = some (.int .i64 k0) := by rw [cell_of_blk HU.out.1.ks 0, ← HKS.out]; rfl
              have d1 : U.cell? ⟨w.heap.size, 1, none⟩ = some (.int .i64 k1) := by rw [cell_of_blk HU.out.1.ks 1, ← HKS.out]; rfl
              have d2 : U.cell? ⟨w.heap.size, 2, none⟩ = some (.int .i64 k2) := by rw [cell_of_blk HU.out.1.ks 2, ← HKS.out]; rfl
              have d3 : U.cell? ⟨w.heap.size, 3, none⟩ = some (.int .i64 k3) := by rw [cell_of_blk HU.out.1.ks 3, ← HKS.out]; rfl
              go_upto_region 21 with (go_at_call 9; go_must (refine (Instr_any _ _ _ _ _ _ _).mono ?_; rintro e w4 ⟨⟨⟨op, ia, ib, ic, iN⟩, rfl⟩, hb4⟩; have HB4 := hid hb4; clear hb4))
              refine wp_rename (fun Z => NxS w ks ⟨r0, r1, r2, r3⟩ Z ∧ Z.heap[w2.heap.size]? = some (.cells (Rg.cs ⟨t0, t1, t2, t3⟩) 38 (0, 0)) ∧ Z.heap[w3.heap.size]? = some (.cells (Rg.cs ⟨t0, t1, t2, t3⟩) 38 (0, 0)) ∧ Z.heap[w4.heap.size]? = some (.cells (Ins.cs ⟨op, ia, ib, ic, iN⟩) 24 (0, 0))) ⟨HU.out.1.keep (bnew HB4.out _), ((bnew HB4.out _).block _ (lt_of_block HU.out.2.1)).trans HU.out.2.1, ((bnew HB4.out _).block _ (lt_of_block HU.out.2.2)).trans HU.out.2.2, heap_alloc_new _ _⟩ ?_
              intro Z hZ
              have HZ := hid hZ
              clear hZ HB4 HU d0 d1 d2 d3
              have d0 := cell_of_blk HZ.out.1.rs 0
              have d1 := cell_of_blk HZ.out.1.rs 1
              have d2 := cell_of_blk HZ.out.1.rs 2
              have d3 := cell_of_blk HZ.out.1.rs 3
              simp only [Rg.cs, List.getElem?_toArray, List.getElem?_cons_zero, List.getElem?_cons_succ] at d0 d1 d2 d3
              have e0 := cell_of_blk HZ.out.2.1 0
              have e1 := cell_of_blk HZ.out.2.1 1
              have e2 := cell_of_blk HZ.out.2.1 2
              have e3 := cell_of_blk HZ.out.2.1 3
              have f0 := cell_of_blk HZ.out.2.2.1 0
              have f1 := cell_of_blk HZ.out.2.2.1 1
              have f2 := cell_of_blk HZ.out.2.2.1 2
              have f3 := cell_of_blk HZ.out.2.2.1 3
              have g0 := cell_of_blk HZ.out.2.2.2 0
              have g1 := cell_of_blk HZ.out.2.2.2 1
              have g2 := cell_of_blk HZ.out.2.2.2 2
              have g3 := cell_of_blk HZ.out.2.2.2 3
              have g4 := cell_of_blk HZ.out.2.2.2 4
              simp only [Rg.cs, Ins.cs, List.getElem?_toArray, List.getElem?_cons_zero, List.getElem?_cons_succ] at e0 e1 e2 e3 f0 f1 f2 f3 g0 g1 g2 g3 g4
              have lt1 := lt_of_block HZ.out.1.rs
              have lt2 := lt_of_block HZ.out.2.1
              have lt3 := lt_of_block HZ.out.2.2.1
              have lt4 := lt_of_block HZ.out.2.2.2
              have hgd : Try.prog.eqGuardType Try.prog.depth 38 = false := by kernel_rfl
              have heq := eq_regs
              refine wp_region_later (by kernel_rfl) (by kernel_rfl) ?_
              repeat (go_big_quiet_step (first | (go_at_call 10; with_reducible exact later_call (told_any _)) | (go_at_call 20; with_reducible exact later_call (Addr_any ⟨op, ia, ib, ic, iN⟩ ⟨r0, r1, r2, r3⟩ _)) | (go_at_call 21; with_reducible exact later_call (refAddr_any ⟨op, ia, ib, ic, iN⟩ ⟨r0, r1, r2, r3⟩ _))))
              refine wpQuiet_nil ?_
              rintro _ ⟨y, rfl⟩
              go_wp2
              go_ret
              exact ⟨rfl, bthen HZ.out.1.below y.below⟩

end Go.Proofs.Ytjnpfjalgjecnaa
