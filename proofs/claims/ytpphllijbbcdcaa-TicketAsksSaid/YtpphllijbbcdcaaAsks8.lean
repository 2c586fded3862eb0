/-
  TicketAsks: each step of any hand is what the document says.
-/
import Derived.Test.YtpphllijbbcdcaaAsk8
namespace Go.Proofs.Ytpphllijbbcdcaa
open Go.RowKit
attribute [local go_sem] Later.cell Later.frozen

theorem u64_zero (n : Int) : 0 ≤ IntKind.u64.wrap n := by
  rw [IntKind.wrap_u64]
  omega
theorem tmod4 (z : Int) : (IntKind.u64.wrap z).tmod 4 = 0 ∨ (IntKind.u64.wrap z).tmod 4 = 1 ∨ (IntKind.u64.wrap z).tmod 4 = 2 ∨ (IntKind.u64.wrap z).tmod 4 = 3 := by
  have h := u64_zero z
  rw [Int.tmod_eq_emod_of_nonneg h]
  omega

/-- The stages of the statement that brings a hand near: the list (10), the three stores (18, 20, 22). -/
def NearD (w : World) (x0 x1 x2 : Int) (h g : HD) (q b : Nat) (vw : Value) (c : Nat) (vr : Value) (s : MS) (n : Nat) (L : Nat → Bool) (W : World) : Prop :=
  AskAt w x0 x1 x2 ⟨bif L 18 then g.t else h.t, bif L 20 then g.l else h.l, bif L 22 then g.s else h.s, h.rd, h.x⟩ q b vw c vr s s W ∧ W.heap.size = (bif L 10 then n + 1 else n) ∧
    (L 10 = true → W.heap[n]? = some (.cells #[.int .i64 0, .int .i64 1, .int .i64 9, .int .i64 2] 3 (0, 0)))

section
variable {w : World} {x0 x1 x2 : Int} {h g : HD} {q b : Nat} {vw : Value} {c : Nat} {vr : Value} {s : MS} {n : Nat} {L : Nat → Bool} {W : World}
theorem NearD.start (hL : ∀ j, L j = false) (k : AskAt w x0 x1 x2 h q b vw c vr s s W) (hn : n = W.heap.size) : NearD w x0 x1 x2 h g q b vw c vr s n L W.drew := by
  unfold NearD
  rw [hL 18, hL 20, hL 22, hL 10]
  exact ⟨k.later (bdrew (bid W)), hn.symm, fun h => by cases h⟩
theorem NearD.cell0 (k : NearD w x0 x1 x2 h g q b vw c vr s n L W) (h18 : L 18 = false) : W.cell? ⟨w.heap.size + 1, 0, none⟩ = some (.int .i64 h.t) := by
  have := k.1.box.facts.1
  rw [h18] at this
  exact this
theorem NearD.cell1 (k : NearD w x0 x1 x2 h g q b vw c vr s n L W) (h18 : L 20 = false) : W.cell? ⟨w.heap.size + 1, 1, none⟩ = some (.int .i64 h.l) := by
  have := k.1.box.facts.2.1
  rw [h18] at this
  exact this
theorem NearD.cell2 (k : NearD w x0 x1 x2 h g q b vw c vr s n L W) (h18 : L 22 = false) : W.cell? ⟨w.heap.size + 1, 2, none⟩ = some (.int .i64 h.s) := by
  have := k.1.box.facts.2.2.1
  rw [h18] at this
  exact this
theorem NearD.size0 (k : NearD w x0 x1 x2 h g q b vw c vr s n L W) (hL : L 10 = false) : W.heap.size = n := by
  have := k.2.1
  rw [hL] at this
  exact this
theorem NearD.made (k : NearD w x0 x1 x2 h g q b vw c vr s n L W) (hL : L 10 = false) : NearD w x0 x1 x2 h g q b vw c vr s n (bump L 10) (W.alloc (.cells #[.int .i64 0, .int .i64 1, .int .i64 9, .int .i64 2] 3)) := by
  have hz := k.size0 hL
  refine ⟨k.1.later (bnew (bid W) _), ?_, fun _ => ?_⟩
  · rw [size_alloc1, hz]; rfl
  · rw [← hz]; exact heap_alloc_new _ _
theorem NearD.list (k : NearD w x0 x1 x2 h g q b vw c vr s n L W) (h10 : L 10 = true) (i : Nat) (v : Value) (hv : (#[.int .i64 0, .int .i64 1, .int .i64 9, .int .i64 2] : Array Value)[i]? = some v) : W.cell? ⟨n, i, none⟩ = some v :=
  (cell_of_blk (k.2.2 h10) i).trans hv
theorem NearD.boxf (k : NearD w x0 x1 x2 h g q b vw c vr s n L W) : W.cell? ⟨w.heap.size + 1, 0, none⟩ = some (.int .i64 (bif L 18 then g.t else h.t)) ∧ W.cell? ⟨w.heap.size + 1, 1, none⟩ = some (.int .i64 (bif L 20 then g.l else h.l)) ∧ W.cell? ⟨w.heap.size + 1, 2, none⟩ = some (.int .i64 (bif L 22 then g.s else h.s)) ∧ W.cell? ⟨w.heap.size + 1, 3, none⟩ = some (.bool h.rd) ∧ W.cell? ⟨w.heap.size + 1, 4, none⟩ = some (.int .i64 h.x) ∧ (∀ i, W.frozen? ⟨w.heap.size + 1, i, none⟩ = false) := k.1.box.facts
theorem NearD.far (k : NearD w x0 x1 x2 h g q b vw c vr s n L W) (hn : w.heap.size + 1 < n) (i : Nat) (u : Value) : (W.setCell ⟨w.heap.size + 1, i, none⟩ u).heap.size = (bif L 10 then n + 1 else n) ∧
    (L 10 = true → (W.setCell ⟨w.heap.size + 1, i, none⟩ u).heap[n]? = some (.cells #[.int .i64 0, .int .i64 1, .int .i64 9, .int .i64 2] 3 (0, 0))) := by
  refine ⟨by rw [← k.2.1]; simp, fun h10 => ?_⟩
  rw [Below.heap_setCell _ _ _ _ (by exact fun e => by simp only at e; omega)]
  exact k.2.2 h10
theorem NearD.set0 (k : NearD w x0 x1 x2 h g q b vw c vr s n L W) (_ : L 18 = false) (hn : w.heap.size + 1 < n) : NearD w x0 x1 x2 h g q b vw c vr s n (bump L 18) (W.setCell ⟨w.heap.size + 1, 0, none⟩ (.int .i64 g.t)) := ⟨k.1.setCell 0 _ rfl, k.far hn 0 _⟩
theorem NearD.set1 (k : NearD w x0 x1 x2 h g q b vw c vr s n L W) (_ : L 20 = false) (hn : w.heap.size + 1 < n) : NearD w x0 x1 x2 h g q b vw c vr s n (bump L 20) (W.setCell ⟨w.heap.size + 1, 1, none⟩ (.int .i64 g.l)) := ⟨k.1.setCell 1 _ rfl, k.far hn 1 _⟩
theorem NearD.set2 (k : NearD w x0 x1 x2 h g q b vw c vr s n L W) (_ : L 22 = false) (hn : w.heap.size + 1 < n) : NearD w x0 x1 x2 h g q b vw c vr s n (bump L 22) (W.setCell ⟨w.heap.size + 1, 2, none⟩ (.int .i64 g.s)) := ⟨k.1.setCell 2 _ rfl, k.far hn 2 _⟩
theorem NearD.end_ (hall : ∀ j, j < 23 → L j = true) (k : NearD w x0 x1 x2 h g q b vw c vr s n L W) : AskAt w x0 x1 x2 ⟨g.t, g.l, g.s, h.rd, h.x⟩ q b vw c vr s s W := by
  have := k.1
  rw [hall 18 (by decide), hall 20 (by decide), hall 22 (by decide)] at this
  exact this
end

set_option maxRecDepth 100000 in
set_option maxHeartbeats 8000000 in
theorem asks8_any (x0 x1 x2 : Int) (h : HD) (near drop : Bool) (w : World) :
    Calls Try.prog 3 #[.agg #[.int .i64 x0, .int .i64 x1, .int .i64 x2], h.v, .bool near, .bool drop] w fun e w' => e = .returned (.bool true) ∧ Below w.heap.size w w' := by
  have HBO := hid (fun (x : World) => (show Calls Try.prog 8 #[mp4.v] x (MadeBoth 48 x) from by have := Both_any mp4 x mp4_ok; rwa [mp4_size] at this))
  obtain ⟨ht, hl, hs, hr, hx⟩ := h
  show Calls _ _ #[_, .agg #[.int .i64 ht, .int .i64 hl, .int .i64 hs, .bool hr, .int .i64 hx], _, _] _ _
  go_enter Try.func3, Try.ntmps3
  go_upto_region 2 with (go_at_call 7; (with_reducible refine (Map_any _).mono ?_); rintro e w1 ⟨rfl, hb1⟩; have HB1 := hid hb1; clear hb1)
  have HX := hid (show ThreeW (w1.alloc (.cells mp4.cells 26)) w.heap.size x0 x1 x2 ∧ HandAt (w1.alloc (.cells mp4.cells 26)) (w.heap.size + 1) ⟨ht, hl, hs, hr, hx⟩ ∧ MapAt 26 (w1.alloc (.cells mp4.cells 26)) w1.heap.size mp4 ∧ w.heap.size + 1 < w1.heap.size ∧ Below w.heap.size w (w1.alloc (.cells mp4.cells 26)) from by
    have h1 : ThreeW (w.alloc (.cells #[.int .i64 x0, .int .i64 x1, .int .i64 x2] 22)) w.heap.size x0 x1 x2 := heap_alloc_new _ _
    have h2 := HandAt.new (w.alloc (.cells #[.int .i64 x0, .int .i64 x1, .int .i64 x2] 22)) ⟨ht, hl, hs, hr, hx⟩
    rw [size_alloc1] at h2
    have hsz := HB1.out.size
    have hbb := bnew HB1.out (.cells mp4.cells 26)
    have hb0 : Below (w.alloc (.cells #[.int .i64 x0, .int .i64 x1, .int .i64 x2] 22)).heap.size (w.alloc (.cells #[.int .i64 x0, .int .i64 x1, .int .i64 x2] 22)) (w1.alloc (.cells mp4.cells 26)) := bthen (bnew (bid _) (.cells (HD.mk ht hl hs hr hx).cells 24)) hbb
    refine ⟨(hb0.block _ (lt_of_block h1)).trans h1, h2.below hbb, MapAt.new _ w1 mp4, ?_, bthen (bnew (bid w) _) hb0⟩
    simp at hsz
    omega)
  refine wp_rename (fun W => ThreeW W w.heap.size x0 x1 x2 ∧ HandAt W (w.heap.size + 1) ⟨ht, hl, hs, hr, hx⟩ ∧ MapAt 26 W w1.heap.size mp4 ∧ w.heap.size + 1 < w1.heap.size ∧ Below w.heap.size w W) HX.out ?_
  generalize w1.heap.size = q
  clear HX HB1
  rintro W ⟨hw3, hbx, hmp, hq, hbl⟩
  have HW3 := hid (And.intro hw3 (And.intro hbx (And.intro hmp (And.intro hq hbl))))
  obtain ⟨m0, m1, m2, m3, m4, _⟩ := hmp.facts
  clear hw3 hbx hmp hbl hq
  go_upto_region 5 with (go_at_call 8; (with_reducible refine (HBO.out _).mono ?_); rintro e w2 ⟨b, vw, c, vr, rfl, hp, hb2⟩; have HP := hid hp; have HB2 := hid hb2; clear hp hb2)
  refine wp_rename (fun W => AskAt w x0 x1 x2 ⟨ht, hl, hs, hr, hx⟩ q b vw c vr (MS.new (zrow 48)) (MS.new (zrow 48)) W) (by
    obtain ⟨hw3, hbx, hmp, hq, hbl⟩ := HW3.out
    have hlm := hmp.lt
    have hlb := hbx.lt
    refine ⟨(HB2.out.block _ (lt_of_block hw3)).trans hw3, hbx.below HB2.out, hmp.below HB2.out, HP.out.mono hbl.size, fun j hj => ?_, hq, bthen hbl HB2.out⟩
    have h1 := HP.out.old j
    exact ⟨fun e => h1 (by omega) hj, fun e => h1 (by omega) hj, fun e => h1 (by omega) hj⟩) ?_
  clear HW3 HP HB2 HBO m0 m1 m2 m3 m4
  intro W3 hk
  have HK := hid hk
  clear hk
  go_upto_if 25 with fail
  go_cut [] (fun W => ∃ h1 : HD, AskAt w x0 x1 x2 h1 q b vw c vr (MS.new (zrow 48)) (MS.new (zrow 48)) W)
  case first =>
    cases near
    · go_wp2_with fail
      go_meet
      case rel => exact ⟨_, HK.out⟩
    · go_upto_region 6 with fail
      have hne2 : Nonempty (Sat (fun _ => True)) := ⟨⟨w, trivial⟩⟩
      have hn2 : w.heap.size + 1 < W3.heap.size := HK.out.box.lt
      generalize hn : W3.heap.size = n at hn2
      rcases tmod4 hs with hk4 | hk4 | hk4 | hk4
      · refine wp_region_staged (NearD w x0 x1 x2 ⟨ht, hl, hs, hr, hx⟩ (HD.mk (wrap64 ((IntKind.u64.wrap ht).tmod 4)) (wrap64 ((IntKind.u64.wrap hl).tmod 2)) 0 hr hx) q b vw c vr (MS.new (zrow 48)) n) (by kernel_rfl) (by kernel_rfl) (fun L hL => NearD.start hL HK.out hn.symm) ?_
        refine wpS_plain (fun _ => True) (fun _ _ _ _ _ => trivial) (fun _ _ h => h) rfl rfl ?_
        intro KK hKK
        go_big_quiet_op
        go_big_quiet_on
        have hne1 : Nonempty (Sat (fun W => W.cell? ⟨w.heap.size + 1, 0, none⟩ = some (.int .i64 ht))) := ⟨⟨_, HK.out.box.facts.1⟩⟩
        have y1 := fun (x : Sat (fun W => W.cell? ⟨w.heap.size + 1, 0, none⟩ = some (.int .i64 ht))) => x.p
        refine wpS_plain (fun W => W.cell? ⟨w.heap.size + 1, 0, none⟩ = some (.int .i64 ht)) (fun L W hL hcl hd => by have h18 := hcl.no hL (j := 18) (by kernel_rfl); exact NearD.cell0 hd h18) (fun _ _ h => h) rfl rfl ?_
        intro KK hKK
        go_big_quiet_op
        go_big_quiet_on
        clear y1 hne1
        refine wpS_plain (fun _ => True) (fun _ _ _ _ _ => trivial) (fun _ _ h => h) rfl rfl ?_
        intro KK hKK
        go_big_quiet_op
        go_big_quiet_on
        refine wpS_plain (fun _ => True) (fun _ _ _ _ _ => trivial) (fun _ _ h => h) rfl rfl ?_
        intro KK hKK
        go_big_quiet_op
        go_big_quiet_on
        refine wpS_plain (fun _ => True) (fun _ _ _ _ _ => trivial) (fun _ _ h => h) rfl rfl ?_
        intro KK hKK
        go_big_quiet_op
        go_big_quiet_on
        refine wpS_plain (fun _ => True) (fun _ _ _ _ _ => trivial) (fun _ _ h => h) rfl rfl ?_
        intro KK hKK
        go_big_quiet_op
        go_big_quiet_on
        have hne1 : Nonempty (Sat (fun W => W.cell? ⟨w.heap.size + 1, 1, none⟩ = some (.int .i64 hl))) := ⟨⟨_, HK.out.box.facts.2.1⟩⟩
        have y1 := fun (x : Sat (fun W => W.cell? ⟨w.heap.size + 1, 1, none⟩ = some (.int .i64 hl))) => x.p
        refine wpS_plain (fun W => W.cell? ⟨w.heap.size + 1, 1, none⟩ = some (.int .i64 hl)) (fun L W hL hcl hd => by have h18 := hcl.no hL (j := 20) (by kernel_rfl); exact NearD.cell1 hd h18) (fun _ _ h => h) rfl rfl ?_
        intro KK hKK
        go_big_quiet_op
        go_big_quiet_on
        clear y1 hne1
        refine wpS_plain (fun _ => True) (fun _ _ _ _ _ => trivial) (fun _ _ h => h) rfl rfl ?_
        intro KK hKK
        go_big_quiet_op
        go_big_quiet_on
        refine wpS_plain (fun _ => True) (fun _ _ _ _ _ => trivial) (fun _ _ h => h) rfl rfl ?_
        intro KK hKK
        go_big_quiet_op
        go_big_quiet_on
        refine wpS_plain (fun _ => True) (fun _ _ _ _ _ => trivial) (fun _ _ h => h) rfl rfl ?_
        intro KK hKK
        go_big_quiet_op
        go_big_quiet_on
        refine wpS_val (.slice (some ⟨n, 0, none⟩) 4 4) rfl ?_ ?_
        · intro L W hL hcl hd
          have hsz := NearD.size0 hd hL
          refine ⟨W.alloc (.cells #[.int .i64 0, .int .i64 1, .int .i64 9, .int .i64 2] 3), ?_, NearD.made hd hL⟩
          rw [← hsz]
          go_simp
        (try simp only [Act.put, List.getElem_toArray, List.getElem_cons_zero, List.getElem_cons_succ, List.setIfInBounds_toArray, List.set_cons_zero, List.set_cons_succ])
        refine wpS_plain (fun _ => True) (fun _ _ _ _ _ => trivial) (fun _ _ h => h) rfl rfl ?_
        intro KK hKK
        go_big_quiet_op
        go_big_quiet_on
        have hne1 : Nonempty (Sat (fun W => W.cell? ⟨w.heap.size + 1, 2, none⟩ = some (.int .i64 hs))) := ⟨⟨_, HK.out.box.facts.2.2.1⟩⟩
        have y1 := fun (x : Sat (fun W => W.cell? ⟨w.heap.size + 1, 2, none⟩ = some (.int .i64 hs))) => x.p
        refine wpS_plain (fun W => W.cell? ⟨w.heap.size + 1, 2, none⟩ = some (.int .i64 hs)) (fun L W hL hcl hd => by have h18 := hcl.no hL (j := 22) (by kernel_rfl); exact NearD.cell2 hd h18) (fun _ _ h => h) rfl rfl ?_
        intro KK hKK
        go_big_quiet_op
        go_big_quiet_on
        clear y1 hne1
        refine wpS_plain (fun _ => True) (fun _ _ _ _ _ => trivial) (fun _ _ h => h) rfl rfl ?_
        intro KK hKK
        go_big_quiet_op
        go_big_quiet_on
        refine wpS_plain (fun _ => True) (fun _ _ _ _ _ => trivial) (fun _ _ h => h) rfl rfl ?_
        intro KK hKK
        go_big_quiet_op
        go_big_quiet_on
        refine wpS_plain (fun _ => True) (fun _ _ _ _ _ => trivial) (fun _ _ h => h) rfl rfl ?_
        intro KK hKK
        go_big_quiet_op
        go_big_quiet_on
        have hne1 : Nonempty (Sat (fun W => W.cell? ⟨n, 0, none⟩ = some (.int .i64 0))) := ⟨⟨W3.alloc (.cells #[.int .i64 0, .int .i64 1, .int .i64 9, .int .i64 2] 3), by rw [← hn]; exact (cell_of_blk (heap_alloc_new _ _) 0).trans rfl⟩⟩
        have y1 := fun (x : Sat (fun W => W.cell? ⟨n, 0, none⟩ = some (.int .i64 0))) => x.p
        refine wpS_plain (fun W => W.cell? ⟨n, 0, none⟩ = some (.int .i64 0)) (fun L W hL hcl hd => NearD.list hd (hcl.closed.yes (j := 15) (i := 10) (hcl.dep (i := 15) (by kernel_rfl)) (by kernel_rfl)) 0 _ rfl) (fun _ _ h => h) rfl rfl ?_
        intro KK hKK
        go_big_quiet_op
        go_big_quiet_on
        clear y1 hne1
        refine wpS_plain (fun _ => True) (fun _ _ _ _ _ => trivial) (fun _ _ h => h) rfl rfl ?_
        intro KK hKK
        go_big_quiet_op
        go_big_quiet_on
        refine wpS_store rfl ?_ ?_
        · intro L W hL hcl hd
          obtain ⟨d0, d1, d2, d3, d4, df⟩ := NearD.boxf hd
          exact ⟨_, by go_simp, NearD.set0 hd hL hn2⟩
        (try simp only [Act.put, List.getElem_toArray, List.getElem_cons_zero, List.getElem_cons_succ, List.setIfInBounds_toArray, List.set_cons_zero, List.set_cons_succ])
        refine wpS_plain (fun _ => True) (fun _ _ _ _ _ => trivial) (fun _ _ h => h) rfl rfl ?_
        intro KK hKK
        go_big_quiet_op
        go_big_quiet_on
        refine wpS_store rfl ?_ ?_
        · intro L W hL hcl hd
          obtain ⟨d0, d1, d2, d3, d4, df⟩ := NearD.boxf hd
          exact ⟨_, by go_simp, NearD.set1 hd hL hn2⟩
        (try simp only [Act.put, List.getElem_toArray, List.getElem_cons_zero, List.getElem_cons_succ, List.setIfInBounds_toArray, List.set_cons_zero, List.set_cons_succ])
        refine wpS_plain (fun _ => True) (fun _ _ _ _ _ => trivial) (fun _ _ h => h) rfl rfl ?_
        intro KK hKK
        go_big_quiet_op
        go_big_quiet_on
        refine wpS_store rfl ?_ ?_
        · intro L W hL hcl hd
          obtain ⟨d0, d1, d2, d3, d4, df⟩ := NearD.boxf hd
          exact ⟨_, by go_simp, NearD.set2 hd hL hn2⟩
        (try simp only [Act.put, List.getElem_toArray, List.getElem_cons_zero, List.getElem_cons_succ, List.setIfInBounds_toArray, List.set_cons_zero, List.set_cons_succ])
        intro L W hall hd
        have HK9 := hid (NearD.end_ hall hd)
        clear HK hk4
        obtain ⟨d0, d1, d2, d3, d4, df⟩ := HK9.out.box.facts
        go_wp2_with fail
        go_meet
        case rel => exact ⟨_, HK9.out.setX _⟩
      · refine wp_region_staged (NearD w x0 x1 x2 ⟨ht, hl, hs, hr, hx⟩ (HD.mk (wrap64 ((IntKind.u64.wrap ht).tmod 4)) (wrap64 ((IntKind.u64.wrap hl).tmod 2)) 1 hr hx) q b vw c vr (MS.new (zrow 48)) n) (by kernel_rfl) (by kernel_rfl) (fun L hL => NearD.start hL HK.out hn.symm) ?_
        refine wpS_plain (fun _ => True) (fun _ _ _ _ _ => trivial) (fun _ _ h => h) rfl rfl ?_
        intro KK hKK
        go_big_quiet_op
        go_big_quiet_on
        have hne1 : Nonempty (Sat (fun W => W.cell? ⟨w.heap.size + 1, 0, none⟩ = some (.int .i64 ht))) := ⟨⟨_, HK.out.box.facts.1⟩⟩
        have y1 := fun (x : Sat (fun W => W.cell? ⟨w.heap.size + 1, 0, none⟩ = some (.int .i64 ht))) => x.p
        refine wpS_plain (fun W => W.cell? ⟨w.heap.size + 1, 0, none⟩ = some (.int .i64 ht)) (fun L W hL hcl hd => by have h18 := hcl.no hL (j := 18) (by kernel_rfl); exact NearD.cell0 hd h18) (fun _ _ h => h) rfl rfl ?_
        intro KK hKK
        go_big_quiet_op
        go_big_quiet_on
        clear y1 hne1
        refine wpS_plain (fun _ => True) (fun _ _ _ _ _ => trivial) (fun _ _ h => h) rfl rfl ?_
        intro KK hKK
        go_big_quiet_op
        go_big_quiet_on
        refine wpS_plain (fun _ => True) (fun _ _ _ _ _ => trivial) (fun _ _ h => h) rfl rfl ?_
        intro KK hKK
        go_big_quiet_op
        go_big_quiet_on
        refine wpS_plain (fun _ => True) (fun _ _ _ _ _ => trivial) (fun _ _ h => h) rfl rfl ?_
        intro KK hKK
        go_big_quiet_op
        go_big_quiet_on
        refine wpS_plain (fun _ => True) (fun _ _ _ _ _ => trivial) (fun _ _ h => h) rfl rfl ?_
        intro KK hKK
        go_big_quiet_op
        go_big_quiet_on
        have hne1 : Nonempty (Sat (fun W => W.cell? ⟨w.heap.size + 1, 1, none⟩ = some (.int .i64 hl))) := ⟨⟨_, HK.out.box.facts.2.1⟩⟩
        have y1 := fun (x : Sat (fun W => W.cell? ⟨w.heap.size + 1, 1, none⟩ = some (.int .i64 hl))) => x.p
        refine wpS_plain (fun W => W.cell? ⟨w.heap.size + 1, 1, none⟩ = some (.int .i64 hl)) (fun L W hL hcl hd => by have h18 := hcl.no hL (j := 20) (by kernel_rfl); exact NearD.cell1 hd h18) (fun _ _ h => h) rfl rfl ?_
        intro KK hKK
        go_big_quiet_op
        go_big_quiet_on
        clear y1 hne1
        refine wpS_plain (fun _ => True) (fun _ _ _ _ _ => trivial) (fun _ _ h => h) rfl rfl ?_
        intro KK hKK
        go_big_quiet_op
        go_big_quiet_on
        refine wpS_plain (fun _ => True) (fun _ _ _ _ _ => trivial) (fun _ _ h => h) rfl rfl ?_
        intro KK hKK
        go_big_quiet_op
        go_big_quiet_on
        refine wpS_plain (fun _ => True) (fun _ _ _ _ _ => trivial) (fun _ _ h => h) rfl rfl ?_
        intro KK hKK
        go_big_quiet_op
        go_big_quiet_on
        refine wpS_val (.slice (some ⟨n, 0, none⟩) 4 4) rfl ?_ ?_
        · intro L W hL hcl hd
          have hsz := NearD.size0 hd hL
          refine ⟨W.alloc (.cells #[.int .i64 0, .int .i64 1, .int .i64 9, .int .i64 2] 3), ?_, NearD.made hd hL⟩
          rw [← hsz]
          go_simp
        (try simp only [Act.put, List.getElem_toArray, List.getElem_cons_zero, List.getElem_cons_succ, List.setIfInBounds_toArray, List.set_cons_zero, List.set_cons_succ])
        refine wpS_plain (fun _ => True) (fun _ _ _ _ _ => trivial) (fun _ _ h => h) rfl rfl ?_
        intro KK hKK
        go_big_quiet_op
        go_big_quiet_on
        have hne1 : Nonempty (Sat (fun W => W.cell? ⟨w.heap.size + 1, 2, none⟩ = some (.int .i64 hs))) := ⟨⟨_, HK.out.box.facts.2.2.1⟩⟩
        have y1 := fun (x : Sat (fun W => W.cell? ⟨w.heap.size + 1, 2, none⟩ = some (.int .i64 hs))) => x.p
        refine wpS_plain (fun W => W.cell? ⟨w.heap.size + 1, 2, none⟩ = some (.int .i64 hs)) (fun L W hL hcl hd => by have h18 := hcl.no hL (j := 22) (by kernel_rfl); exact NearD.cell2 hd h18) (fun _ _ h => h) rfl rfl ?_
        intro KK hKK
        go_big_quiet_op
        go_big_quiet_on
        clear y1 hne1
        refine wpS_plain (fun _ => True) (fun _ _ _ _ _ => trivial) (fun _ _ h => h) rfl rfl ?_
        intro KK hKK
        go_big_quiet_op
        go_big_quiet_on
        refine wpS_plain (fun _ => True) (fun _ _ _ _ _ => trivial) (fun _ _ h => h) rfl rfl ?_
        intro KK hKK
        go_big_quiet_op
        go_big_quiet_on
        refine wpS_plain (fun _ => True) (fun _ _ _ _ _ => trivial) (fun _ _ h => h) rfl rfl ?_
        intro KK hKK
        go_big_quiet_op
        go_big_quiet_on
        have hne1 : Nonempty (Sat (fun W => W.cell? ⟨n, 1, none⟩ = some (.int .i64 1))) := ⟨⟨W3.alloc (.cells #[.int .i64 0, .int .i64 1, .int .i64 9, .int .i64 2] 3), by rw [← hn]; exact (cell_of_blk (heap_alloc_new _ _) 1).trans rfl⟩⟩
        have y1 := fun (x : Sat (fun W => W.cell? ⟨n, 1, none⟩ = some (.int .i64 1))) => x.p
        refine wpS_plain (fun W => W.cell? ⟨n, 1, none⟩ = some (.int .i64 1)) (fun L W hL hcl hd => NearD.list hd (hcl.closed.yes (j := 15) (i := 10) (hcl.dep (i := 15) (by kernel_rfl)) (by kernel_rfl)) 1 _ rfl) (fun _ _ h => h) rfl rfl ?_
        intro KK hKK
        go_big_quiet_op
        go_big_quiet_on
        clear y1 hne1
        refine wpS_plain (fun _ => True) (fun _ _ _ _ _ => trivial) (fun _ _ h => h) rfl rfl ?_
        intro KK hKK
        go_big_quiet_op
        go_big_quiet_on
        refine wpS_store rfl ?_ ?_
        · intro L W hL hcl hd
          obtain ⟨d0, d1, d2, d3, d4, df⟩ := NearD.boxf hd
          exact ⟨_, by go_simp, NearD.set0 hd hL hn2⟩
        (try simp only [Act.put, List.getElem_toArray, List.getElem_cons_zero, List.getElem_cons_succ, List.setIfInBounds_toArray, List.set_cons_zero, List.set_cons_succ])
        refine wpS_plain (fun _ => True) (fun _ _ _ _ _ => trivial) (fun _ _ h => h) rfl rfl ?_
        intro KK hKK
        go_big_quiet_op
        go_big_quiet_on
        refine wpS_store rfl ?_ ?_
        · intro L W hL hcl hd
          obtain ⟨d0, d1, d2, d3, d4, df⟩ := NearD.boxf hd
          exact ⟨_, by go_simp, NearD.set1 hd hL hn2⟩
        (try simp only [Act.put, List.getElem_toArray, List.getElem_cons_zero, List.getElem_cons_succ, List.setIfInBounds_toArray, List.set_cons_zero, List.set_cons_succ])
        refine wpS_plain (fun _ => True) (fun _ _ _ _ _ => trivial) (fun _ _ h => h) rfl rfl ?_
        intro KK hKK
        go_big_quiet_op
        go_big_quiet_on
        refine wpS_store rfl ?_ ?_
        · intro L W hL hcl hd
          obtain ⟨d0, d1, d2, d3, d4, df⟩ := NearD.boxf hd
          exact ⟨_, by go_simp, NearD.set2 hd hL hn2⟩
        (try simp only [Act.put, List.getElem_toArray, List.getElem_cons_zero, List.getElem_cons_succ, List.setIfInBounds_toArray, List.set_cons_zero, List.set_cons_succ])
        intro L W hall hd
        have HK9 := hid (NearD.end_ hall hd)
        clear HK hk4
        obtain ⟨d0, d1, d2, d3, d4, df⟩ := HK9.out.box.facts
        go_wp2_with fail
        go_meet
        case rel => exact ⟨_, HK9.out.setX _⟩
      · refine wp_region_staged (NearD w x0 x1 x2 ⟨ht, hl, hs, hr, hx⟩ (HD.mk (wrap64 ((IntKind.u64.wrap ht).tmod 4)) (wrap64 ((IntKind.u64.wrap hl).tmod 2)) 9 hr hx) q b vw c vr (MS.new (zrow 48)) n) (by kernel_rfl) (by kernel_rfl) (fun L hL => NearD.start hL HK.out hn.symm) ?_
        refine wpS_plain (fun _ => True) (fun _ _ _ _ _ => trivial) (fun _ _ h => h) rfl rfl ?_
        intro KK hKK
        go_big_quiet_op
        go_big_quiet_on
        have hne1 : Nonempty (Sat (fun W => W.cell? ⟨w.heap.size + 1, 0, none⟩ = some (.int .i64 ht))) := ⟨⟨_, HK.out.box.facts.1⟩⟩
        have y1 := fun (x : Sat (fun W => W.cell? ⟨w.heap.size + 1, 0, none⟩ = some (.int .i64 ht))) => x.p
        refine wpS_plain (fun W => W.cell? ⟨w.heap.size + 1, 0, none⟩ = some (.int .i64 ht)) (fun L W hL hcl hd => by have h18 := hcl.no hL (j := 18) (by kernel_rfl); exact NearD.cell0 hd h18) (fun _ _ h => h) rfl rfl ?_
        intro KK hKK
        go_big_quiet_op
        go_big_quiet_on
        clear y1 hne1
        refine wpS_plain (fun _ => True) (fun _ _ _ _ _ => trivial) (fun _ _ h => h) rfl rfl ?_
        intro KK hKK
        go_big_quiet_op
        go_big_quiet_on
        refine wpS_plain (fun _ => True) (fun _ _ _ _ _ => trivial) (fun _ _ h => h) rfl rfl ?_
        intro KK hKK
        go_big_quiet_op
        go_big_quiet_on
        refine wpS_plain (fun _ => True) (fun _ _ _ _ _ => trivial) (fun _ _ h => h) rfl rfl ?_
        intro KK hKK
        go_big_quiet_op
        go_big_quiet_on
        refine wpS_plain (fun _ => True) (fun _ _ _ _ _ => trivial) (fun _ _ h => h) rfl rfl ?_
        intro KK hKK
        go_big_quiet_op
        go_big_quiet_on
        have hne1 : Nonempty (Sat (fun W => W.cell? ⟨w.heap.size + 1, 1, none⟩ = some (.int .i64 hl))) := ⟨⟨_, HK.out.box.facts.2.1⟩⟩
        have y1 := fun (x : Sat (fun W => W.cell? ⟨w.heap.size + 1, 1, none⟩ = some (.int .i64 hl))) => x.p
        refine wpS_plain (fun W => W.cell? ⟨w.heap.size + 1, 1, none⟩ = some (.int .i64 hl)) (fun L W hL hcl hd => by have h18 := hcl.no hL (j := 20) (by kernel_rfl); exact NearD.cell1 hd h18) (fun _ _ h => h) rfl rfl ?_
        intro KK hKK
        go_big_quiet_op
        go_big_quiet_on
        clear y1 hne1
        refine wpS_plain (fun _ => True) (fun _ _ _ _ _ => trivial) (fun _ _ h => h) rfl rfl ?_
        intro KK hKK
        go_big_quiet_op
        go_big_quiet_on
        refine wpS_plain (fun _ => True) (fun _ _ _ _ _ => trivial) (fun _ _ h => h) rfl rfl ?_
        intro KK hKK
        go_big_quiet_op
        go_big_quiet_on
        refine wpS_plain (fun _ => True) (fun _ _ _ _ _ => trivial) (fun _ _ h => h) rfl rfl ?_
        intro KK hKK
        go_big_quiet_op
        go_big_quiet_on
        refine wpS_val (.slice (some ⟨n, 0, none⟩) 4 4) rfl ?_ ?_
        · intro L W hL hcl hd
          have hsz := NearD.size0 hd hL
          refine ⟨W.alloc (.cells #[.int .i64 0, .int .i64 1, .int .i64 9, .int .i64 2] 3), ?_, NearD.made hd hL⟩
          rw [← hsz]
          go_simp
        (try simp only [Act.put, List.getElem_toArray, List.getElem_cons_zero, List.getElem_cons_succ, List.setIfInBounds_toArray, List.set_cons_zero, List.set_cons_succ])
        refine wpS_plain (fun _ => True) (fun _ _ _ _ _ => trivial) (fun _ _ h => h) rfl rfl ?_
        intro KK hKK
        go_big_quiet_op
        go_big_quiet_on
        have hne1 : Nonempty (Sat (fun W => W.cell? ⟨w.heap.size + 1, 2, none⟩ = some (.int .i64 hs))) := ⟨⟨_, HK.out.box.facts.2.2.1⟩⟩
        have y1 := fun (x : Sat (fun W => W.cell? ⟨w.heap.size + 1, 2, none⟩ = some (.int .i64 hs))) => x.p
        refine wpS_plain (fun W => W.cell? ⟨w.heap.size + 1, 2, none⟩ = some (.int .i64 hs)) (fun L W hL hcl hd => by have h18 := hcl.no hL (j := 22) (by kernel_rfl); exact NearD.cell2 hd h18) (fun _ _ h => h) rfl rfl ?_
        intro KK hKK
        go_big_quiet_op
        go_big_quiet_on
        clear y1 hne1
        refine wpS_plain (fun _ => True) (fun _ _ _ _ _ => trivial) (fun _ _ h => h) rfl rfl ?_
        intro KK hKK
        go_big_quiet_op
        go_big_quiet_on
        refine wpS_plain (fun _ => True) (fun _ _ _ _ _ => trivial) (fun _ _ h => h) rfl rfl ?_
        intro KK hKK
        go_big_quiet_op
        go_big_quiet_on
        refine wpS_plain (fun _ => True) (fun _ _ _ _ _ => trivial) (fun _ _ h => h) rfl rfl ?_
        intro KK hKK
        go_big_quiet_op
        go_big_quiet_on
        have hne1 : Nonempty (Sat (fun W => W.cell? ⟨n, 2, none⟩ = some (.int .i64 9))) := ⟨⟨W3.alloc (.cells #[.int .i64 0, .int .i64 1, .int .i64 9, .int .i64 2] 3), by rw [← hn]; exact (cell_of_blk (heap_alloc_new _ _) 2).trans rfl⟩⟩
        have y1 := fun (x : Sat (fun W => W.cell? ⟨n, 2, none⟩ = some (.int .i64 9))) => x.p
        refine wpS_plain (fun W => W.cell? ⟨n, 2, none⟩ = some (.int .i64 9)) (fun L W hL hcl hd => NearD.list hd (hcl.closed.yes (j := 15) (i := 10) (hcl.dep (i := 15) (by kernel_rfl)) (by kernel_rfl)) 2 _ rfl) (fun _ _ h => h) rfl rfl ?_
        intro KK hKK
        go_big_quiet_op
        go_big_quiet_on
        clear y1 hne1
        refine wpS_plain (fun _ => True) (fun _ _ _ _ _ => trivial) (fun _ _ h => h) rfl rfl ?_
        intro KK hKK
        go_big_quiet_op
        go_big_quiet_on
        refine wpS_store rfl ?_ ?_
        · intro L W hL hcl hd
          obtain ⟨d0, d1, d2, d3, d4, df⟩ := NearD.boxf hd
          exact ⟨_, by go_simp, NearD.set0 hd hL hn2⟩
        (try simp only [Act.put, List.getElem_toArray, List.getElem_cons_zero, List.getElem_cons_succ, List.setIfInBounds_toArray, List.set_cons_zero, List.set_cons_succ])
        refine wpS_plain (fun _ => True) (fun _ _ _ _ _ => trivial) (fun _ _ h => h) rfl rfl ?_
        intro KK hKK
        go_big_quiet_op
        go_big_quiet_on
        refine wpS_store rfl ?_ ?_
        · intro L W hL hcl hd
          obtain ⟨d0, d1, d2, d3, d4, df⟩ := NearD.boxf hd
          exact ⟨_, by go_simp, NearD.set1 hd hL hn2⟩
        (try simp only [Act.put, List.getElem_toArray, List.getElem_cons_zero, List.getElem_cons_succ, List.setIfInBounds_toArray, List.set_cons_zero, List.set_cons_succ])
        refine wpS_plain (fun _ => True) (fun _ _ _ _ _ => trivial) (fun _ _ h => h) rfl rfl ?_
        intro KK hKK
        go_big_quiet_op
        go_big_quiet_on
        refine wpS_store rfl ?_ ?_
        · intro L W hL hcl hd
          obtain ⟨d0, d1, d2, d3, d4, df⟩ := NearD.boxf hd
          exact ⟨_, by go_simp, NearD.set2 hd hL hn2⟩
        (try simp only [Act.put, List.getElem_toArray, List.getElem_cons_zero, List.getElem_cons_succ, List.setIfInBounds_toArray, List.set_cons_zero, List.set_cons_succ])
        intro L W hall hd
        have HK9 := hid (NearD.end_ hall hd)
        clear HK hk4
        obtain ⟨d0, d1, d2, d3, d4, df⟩ := HK9.out.box.facts
        go_wp2_with fail
        go_meet
        case rel => exact ⟨_, HK9.out.setX _⟩
      · refine wp_region_staged (NearD w x0 x1 x2 ⟨ht, hl, hs, hr, hx⟩ (HD.mk (wrap64 ((IntKind.u64.wrap ht).tmod 4)) (wrap64 ((IntKind.u64.wrap hl).tmod 2)) 2 hr hx) q b vw c vr (MS.new (zrow 48)) n) (by kernel_rfl) (by kernel_rfl) (fun L hL => NearD.start hL HK.out hn.symm) ?_
        refine wpS_plain (fun _ => True) (fun _ _ _ _ _ => trivial) (fun _ _ h => h) rfl rfl ?_
        intro KK hKK
        go_big_quiet_op
        go_big_quiet_on
        have hne1 : Nonempty (Sat (fun W => W.cell? ⟨w.heap.size + 1, 0, none⟩ = some (.int .i64 ht))) := ⟨⟨_, HK.out.box.facts.1⟩⟩
        have y1 := fun (x : Sat (fun W => W.cell? ⟨w.heap.size + 1, 0, none⟩ = some (.int .i64 ht))) => x.p
        refine wpS_plain (fun W => W.cell? ⟨w.heap.size + 1, 0, none⟩ = some (.int .i64 ht)) (fun L W hL hcl hd => by have h18 := hcl.no hL (j := 18) (by kernel_rfl); exact NearD.cell0 hd h18) (fun _ _ h => h) rfl rfl ?_
        intro KK hKK
        go_big_quiet_op
        go_big_quiet_on
        clear y1 hne1
        refine wpS_plain (fun _ => True) (fun _ _ _ _ _ => trivial) (fun _ _ h => h) rfl rfl ?_
        intro KK hKK
        go_big_quiet_op
        go_big_quiet_on
        refine wpS_plain (fun _ => True) (fun _ _ _ _ _ => trivial) (fun _ _ h => h) rfl rfl ?_
        intro KK hKK
        go_big_quiet_op
        go_big_quiet_on
        refine wpS_plain (fun _ => True) (fun _ _ _ _ _ => trivial) (fun _ _ h => h) rfl rfl ?_
        intro KK hKK
        go_big_quiet_op
        go_big_quiet_on
        refine wpS_plain (fun _ => True) (fun _ _ _ _ _ => trivial) (fun _ _ h => h) rfl rfl ?_
        intro KK hKK
        go_big_quiet_op
        go_big_quiet_on
        have hne1 : Nonempty (Sat (fun W => W.cell? ⟨w.heap.size + 1, 1, none⟩ = some (.int .i64 hl))) := ⟨⟨_, HK.out.box.facts.2.1⟩⟩
        have y1 := fun (x : Sat (fun W => W.cell? ⟨w.heap.size + 1, 1, none⟩ = some (.int .i64 hl))) => x.p
        refine wpS_plain (fun W => W.cell? ⟨w.heap.size + 1, 1, none⟩ = some (.int .i64 hl)) (fun L W hL hcl hd => by have h18 := hcl.no hL (j := 20) (by kernel_rfl); exact NearD.cell1 hd h18) (fun _ _ h => h) rfl rfl ?_
        intro KK hKK
        go_big_quiet_op
        go_big_quiet_on
        clear y1 hne1
        refine wpS_plain (fun _ => True) (fun _ _ _ _ _ => trivial) (fun _ _ h => h) rfl rfl ?_
        intro KK hKK
        go_big_quiet_op
        go_big_quiet_on
        refine wpS_plain (fun _ => True) (fun _ _ _ _ _ => trivial) (fun _ _ h => h) rfl rfl ?_
        intro KK hKK
        go_big_quiet_op
        go_big_quiet_on
        refine wpS_plain (fun _ => True) (fun _ _ _ _ _ => trivial) (fun _ _ h => h) rfl rfl ?_
        intro KK hKK
        go_big_quiet_op
        go_big_quiet_on
        refine wpS_val (.slice (some ⟨n, 0, none⟩) 4 4) rfl ?_ ?_
        · intro L W hL hcl hd
          have hsz := NearD.size0 hd hL
          refine ⟨W.alloc (.cells #[.int .i64 0, .int .i64 1, .int .i64 9, .int .i64 2] 3), ?_, NearD.made hd hL⟩
          rw [← hsz]
          go_simp
        (try simp only [Act.put, List.getElem_toArray, List.getElem_cons_zero, List.getElem_cons_succ, List.setIfInBounds_toArray, List.set_cons_zero, List.set_cons_succ])
        refine wpS_plain (fun _ => True) (fun _ _ _ _ _ => trivial) (fun _ _ h => h) rfl rfl ?_
        intro KK hKK
        go_big_quiet_op
        go_big_quiet_on
        have hne1 : Nonempty (Sat (fun W => W.cell? ⟨w.heap.size + 1, 2, none⟩ = some (.int .i64 hs))) := ⟨⟨_, HK.out.box.facts.2.2.1⟩⟩
        have y1 := fun (x : Sat (fun W => W.cell? ⟨w.heap.size + 1, 2, none⟩ = some (.int .i64 hs))) => x.p
        refine wpS_plain (fun W => W.cell? ⟨w.heap.size + 1, 2, none⟩ = some (.int .i64 hs)) (fun L W hL hcl hd => by have h18 := hcl.no hL (j := 22) (by kernel_rfl); exact NearD.cell2 hd h18) (fun _ _ h => h) rfl rfl ?_
        intro KK hKK
        go_big_quiet_op
        go_big_quiet_on
        clear y1 hne1
        refine wpS_plain (fun _ => True) (fun _ _ _ _ _ => trivial) (fun _ _ h => h) rfl rfl ?_
        intro KK hKK
        go_big_quiet_op
        go_big_quiet_on
        refine wpS_plain (fun _ => True) (fun _ _ _ _ _ => trivial) (fun _ _ h => h) rfl rfl ?_
        intro KK hKK
        go_big_quiet_op
        go_big_quiet_on
        refine wpS_plain (fun _ => True) (fun _ _ _ _ _ => trivial) (fun _ _ h => h) rfl rfl ?_
        intro KK hKK
        go_big_quiet_op
        go_big_quiet_on
        have hne1 : Nonempty (Sat (fun W => W.cell? ⟨n, 3, none⟩ = some (.int .i64 2))) := ⟨⟨W3.alloc (.cells #[.int .i64 0, .int .i64 1, .int .i64 9, .int .i64 2] 3), by rw [← hn]; exact (cell_of_blk (heap_alloc_new _ _) 3).trans rfl⟩⟩
        have y1 := fun (x : Sat (fun W => W.cell? ⟨n, 3, none⟩ = some (.int .i64 2))) => x.p
        refine wpS_plain (fun W => W.cell? ⟨n, 3, none⟩ = some (.int .i64 2)) (fun L W hL hcl hd => NearD.list hd (hcl.closed.yes (j := 15) (i := 10) (hcl.dep (i := 15) (by kernel_rfl)) (by kernel_rfl)) 3 _ rfl) (fun _ _ h => h) rfl rfl ?_
        intro KK hKK
        go_big_quiet_op
        go_big_quiet_on
        clear y1 hne1
        refine wpS_plain (fun _ => True) (fun _ _ _ _ _ => trivial) (fun _ _ h => h) rfl rfl ?_
        intro KK hKK
        go_big_quiet_op
        go_big_quiet_on
        refine wpS_store rfl ?_ ?_
        · intro L W hL hcl hd
          obtain ⟨d0, d1, d2, d3, d4, df⟩ := NearD.boxf hd
          exact ⟨_, by go_simp, NearD.set0 hd hL hn2⟩
        (try simp only [Act.put, List.getElem_toArray, List.getElem_cons_zero, List.getElem_cons_succ, List.setIfInBounds_toArray, List.set_cons_zero, List.set_cons_succ])
        refine wpS_plain (fun _ => True) (fun _ _ _ _ _ => trivial) (fun _ _ h => h) rfl rfl ?_
        intro KK hKK
        go_big_quiet_op
        go_big_quiet_on
        refine wpS_store rfl ?_ ?_
        · intro L W hL hcl hd
          obtain ⟨d0, d1, d2, d3, d4, df⟩ := NearD.boxf hd
          exact ⟨_, by go_simp, NearD.set1 hd hL hn2⟩
        (try simp only [Act.put, List.getElem_toArray, List.getElem_cons_zero, List.getElem_cons_succ, List.setIfInBounds_toArray, List.set_cons_zero, List.set_cons_succ])
        refine wpS_plain (fun _ => True) (fun _ _ _ _ _ => trivial) (fun _ _ h => h) rfl rfl ?_
        intro KK hKK
        go_big_quiet_op
        go_big_quiet_on
        refine wpS_store rfl ?_ ?_
        · intro L W hL hcl hd
          obtain ⟨d0, d1, d2, d3, d4, df⟩ := NearD.boxf hd
          exact ⟨_, by go_simp, NearD.set2 hd hL hn2⟩
        (try simp only [Act.put, List.getElem_toArray, List.getElem_cons_zero, List.getElem_cons_succ, List.setIfInBounds_toArray, List.set_cons_zero, List.set_cons_succ])
        intro L W hall hd
        have HK9 := hid (NearD.end_ hall hd)
        clear HK hk4
        obtain ⟨d0, d1, d2, d3, d4, df⟩ := HK9.out.box.facts
        go_wp2_with fail
        go_meet
        case rel => exact ⟨_, HK9.out.setX _⟩
  case rest =>
    clear HK
    obtain ⟨h1, hk⟩ := hcut
    have HK := hid hk
    clear hk
    go_wp2_with fail
    obtain ⟨ht', hl', hs', hr', hx'⟩ := h1
    go_loopw [12] (fun i W => ∃ k : Nat, k ≤ 3 ∧ i = .int .i64 k ∧ ∃ s : MS, s.zs.length = 48 ∧ 0 ≤ s.steps ∧ s.steps ≤ (k : Int) ∧ AskAt w x0 x1 x2 ⟨ht', hl', hs', hr', hx'⟩ q b vw c vr s s W) (fun i _ => 3 - (intOf i).toNat)
    case atStart => exact ⟨0, by omega, rfl, _, zrow_len 48, by decide, by decide, HK.out⟩
    case round =>
      clear HK
      obtain ⟨k, hk, rfl, s, hz, hs0, hs1, hA⟩ := hrel
      have HK := hid hA
      have HS := hid (And.intro hz (And.intro hs0 hs1))
      clear hA hz hs0 hs1
      by_cases hlt : k < 3
      · have i1 : (0 : Int) ≤ (k : Int) := by omega
        have i2 : (k : Int) < 3 := by omega
        obtain ⟨m0, m1, m2, m3, m4, _⟩ := HK.out.map.facts
        obtain ⟨d0, d1, d2, d3, d4, df⟩ := HK.out.box.facts
        have hqz := HK.out.map.lt
        have hbz := HK.out.box.lt
        have HLK := hid (fun (x : World) (l : Int) => refLock_any mp4 l k x)
        go_upto_region 11 with fail
        refine wp_region_later (by kernel_rfl) (by kernel_rfl) ?_
        repeat (go_big_quiet_step (first | (go_at_call 10; with_reducible exact later_call (pRef_any mp4 _)) | (go_at_call 9; with_reducible exact later_call (HLK.out _ _))))
        refine wpQuiet_nil ?_
        rintro _ ⟨x, rfl⟩
        have HK1 := hid (HK.out.later x.below)
        clear m0 m1 m2 m3 m4 d0 d1 d2 d3 d4 df hqz hbz HK
        generalize mp4.at_ 3 (wrap64 ((IntKind.u64.wrap hl').tmod 2)) k = p
        go_upto_region 12 with fail
        refine wp_rename _ HK1.out ?_
        intro W4 hk4
        have HK := hid hk4
        obtain ⟨w0, wf⟩ := hk4.wd.at hlt
        clear hk4 HK1
        generalize hxk : [x0, x1, x2].getD k 0 = xk at w0
        have HX1 := hid hxk
        clear hxk
        go_upto_region 13 with (go_at_call 11; (with_reducible refine (Store_at p _ _ _ _ _ s HK.out.pair.mem).mono ?_); rintro e w5 ⟨rfl, hm, hw⟩; have HK5 := hid (HK.out.one hm hw); clear hm hw)
        obtain ⟨v0, vf⟩ := HK5.out.wd.at hlt
        rw [HX1.out] at v0
        go_wp2_with (go_at_call 12; (with_reducible refine (rStore_at p _ _ _ _ _ s HK5.out.pair.ref).mono ?_); rintro e w6 ⟨rfl, hm, hw⟩; have HK6 := hid (HK5.out.two hm hw); clear hm hw)
        go_roundw
        case rel => exact ⟨k + 1, by omega, by go_num, _, by rw [len_stored]; exact HS.out.1, (stored_steps s p _ k HS.out.2.1 HS.out.2.2 (by omega)).1, by have := (stored_steps s p (xk.tmod 4) k HS.out.2.1 HS.out.2.2 (by omega)).2; push_cast; omega, HK6.out⟩
        case measure => simp [intOf]; omega
      · obtain rfl : k = 3 := by omega
        have HTK := hid (fun (x : World) (hm : Mem x w.heap.size b vw s) => Take_any mp4 ⟨ht', hl', hs', hr', hx'⟩ x _ b vw s hm (by rw [mp4_size, HS.out.1]; decide) mp4_ok)
        have HRT := hid (fun (x : World) (hm : Ref x w.heap.size c vr s) => rTake_any mp4 ⟨ht', hl', hs', hr', hx'⟩ x _ c vr s hm)
        go_upto_region 15 with (go_at_call 13; (with_reducible refine (Steps_any _ _ _ _ _ HK.out.pair.mem).mono ?_); rintro e w6 ⟨rfl, rfl⟩)
        go_cut [15, 16] (fun s15 s16 W => ∃ qa qb, s15 = .pointer (some ⟨qa, 0, none⟩) ∧ s16 = .pointer (some ⟨qb, 0, none⟩) ∧ EndAt w x0 x1 x2 ⟨ht', hl', hs', hr', hx'⟩ q b vw c vr (tkTake mp4 s ⟨ht', hl', hs', hr', hx'⟩).2 (tkTake mp4 s ⟨ht', hl', hs', hr', hx'⟩).2 qa qb (tkTake mp4 s ⟨ht', hl', hs', hr', hx'⟩).1 (tkTake mp4 s ⟨ht', hl', hs', hr', hx'⟩).1 W)
        case first =>
          apply with_tail (R := fun ga gb Z => MidAt w x0 x1 x2 ⟨ht', hl', hs', hr', hx'⟩ q b vw c vr (tkTake mp4 s ⟨ht', hl', hs', hr', hx'⟩).2 (tkTake mp4 s ⟨ht', hl', hs', hr', hx'⟩).2 (some ga) (some gb) Z)
          case h1 =>
            intro tail
            have hS := (HK.out.later (bdrew (bid _))).reads
            refine wp_region_noPanic ?_
            refine wp_region_held_drew (S := (fun w' => w'.cell? ⟨q, 0, none⟩ = some (.int .i64 2) ∧ w'.cell? ⟨q, 1, none⟩ = some (.int .i64 2) ∧ w'.cell? ⟨q, 2, none⟩ = some (.int .i64 4) ∧ w'.cell? ⟨q, 3, none⟩ = some (.int .i64 0) ∧ w'.cell? ⟨q, 4, none⟩ = some (.int .i64 2) ∧ w'.cell? ⟨w.heap.size + 1, 0, none⟩ = some (.int .i64 ht') ∧ w'.cell? ⟨w.heap.size + 1, 1, none⟩ = some (.int .i64 hl') ∧ w'.cell? ⟨w.heap.size + 1, 2, none⟩ = some (.int .i64 hs') ∧ w'.cell? ⟨w.heap.size + 1, 3, none⟩ = some (.bool hr') ∧ w'.cell? ⟨w.heap.size + 1, 4, none⟩ = some (.int .i64 hx'))) (by kernel_rfl) hS (fun hHeld => ?_)
            clear hS
            refine wpAnyH_take (i := 0) (v := ?_) rfl (by kernel_rfl) (by kernel_rfl) (by kernel_rfl) (fun _ _ _ h => h) (Or.inl ⟨by rfl, ?_⟩) (by assumption) ?_
            rotate_left
            · (intro w' hSw; (try dsimp only at hSw); go_simp; try (with_reducible rfl))
            (try simp only [Act.put, List.getElem_toArray, List.getElem_cons_zero, List.getElem_cons_succ, List.setIfInBounds_toArray, List.set_cons_zero, List.set_cons_succ])
            refine wpAnyH_take (i := 1) (v := ?_) rfl (by kernel_rfl) (by kernel_rfl) (by kernel_rfl) (fun _ _ _ h => h) (Or.inl ⟨by rfl, ?_⟩) (by assumption) ?_
            rotate_left
            · (intro w' hSw; (try dsimp only at hSw); go_simp; try (with_reducible rfl))
            (try simp only [Act.put, List.getElem_toArray, List.getElem_cons_zero, List.getElem_cons_succ, List.setIfInBounds_toArray, List.set_cons_zero, List.set_cons_succ])
            refine wpAnyH_take (i := 2) (v := ?_) rfl (by kernel_rfl) (by kernel_rfl) (by kernel_rfl) (fun _ _ _ h => h) (Or.inl ⟨by rfl, ?_⟩) (by assumption) ?_
            rotate_left
            · (intro w' hSw; (try dsimp only at hSw); go_simp; try (with_reducible rfl))
            (try simp only [Act.put, List.getElem_toArray, List.getElem_cons_zero, List.getElem_cons_succ, List.setIfInBounds_toArray, List.set_cons_zero, List.set_cons_succ])
            refine wpAnyH_take (i := 4) (v := ?_) rfl (by kernel_rfl) (by kernel_rfl) (by kernel_rfl) (fun _ _ _ h => h) (Or.inl ⟨by rfl, ?_⟩) (by assumption) ?_
            rotate_left
            · (intro w' hSw; (try dsimp only at hSw); go_simp; try (with_reducible rfl))
            (try simp only [Act.put, List.getElem_toArray, List.getElem_cons_zero, List.getElem_cons_succ, List.setIfInBounds_toArray, List.set_cons_zero, List.set_cons_succ])
            refine wpAnyH_take (i := 6) (v := ?_) rfl (by kernel_rfl) (by kernel_rfl) (by kernel_rfl) (fun _ _ _ h => h) (Or.inl ⟨by rfl, ?_⟩) (by assumption) ?_
            rotate_left
            · (intro w' hSw; (try dsimp only at hSw); go_simp; try (with_reducible rfl))
            (try simp only [Act.put, List.getElem_toArray, List.getElem_cons_zero, List.getElem_cons_succ, List.setIfInBounds_toArray, List.set_cons_zero, List.set_cons_succ])
            refine wpAnyH_take (i := 7) (v := ?_) rfl (by kernel_rfl) (by kernel_rfl) (by kernel_rfl) (fun _ _ _ h => h) (Or.inl ⟨by rfl, ?_⟩) (by assumption) ?_
            rotate_left
            · (intro w' hSw; (try dsimp only at hSw); go_simp; try (with_reducible rfl))
            (try simp only [Act.put, List.getElem_toArray, List.getElem_cons_zero, List.getElem_cons_succ, List.setIfInBounds_toArray, List.set_cons_zero, List.set_cons_succ])
            have HN0 := hid (⟨HK.out.later (bdrew (bid _)), trivial, trivial, (fun _ _ h => by cases h)⟩ : MidAt w x0 x1 x2 ⟨ht', hl', hs', hr', hx'⟩ q b vw c vr s s none none _)
            clear hHeld
            refine rename_to (MidAt w x0 x1 x2 ⟨ht', hl', hs', hr', hx'⟩ q b vw c vr s s none none) HN0.out ?_
            clear HN0
            intro Z hn
            have HN := hid hn
            clear hn
            refine wpAnyH_ready (rs := [3, 9, 10]) (by kernel_rfl) (by simp) (AllReadyH.cons rfl (fun KK hK => ?_) (AllReadyH.cons rfl (fun KK hK => ?_) (AllReadyH.cons rfl (fun KK hK => ?_) AllReadyH.nil)))
            · go_simp
              go_at_call 14
              refine (HTK.out _ HN.out.ask.pair.mem).mono ?_
              rintro e w7 ⟨rfl, hm, hw⟩
              have HN1 := hid (HN.out.one hm hw)
              clear hm hw HN
              have HN := HN1
              clear HN1
              go_wp2_with fail
              refine hK.out _ _ HN.out.ask.reads (fun hHeld => ?_)
              clear hK KK hHeld
              (try simp only [Act.put, List.getElem_toArray, List.getElem_cons_zero, List.getElem_cons_succ, List.setIfInBounds_toArray, List.set_cons_zero, List.set_cons_succ])
              refine rename_to (MidAt w x0 x1 x2 ⟨ht', hl', hs', hr', hx'⟩ q b vw c vr (tkTake mp4 s ⟨ht', hl', hs', hr', hx'⟩).2 s none none) HN.out ?_
              clear HN
              intro Z hn
              have HN := hid hn
              clear hn
              refine wpAnyH_ready (rs := [5, 9, 10]) (by kernel_rfl) (by simp) (AllReadyH.cons rfl (fun KK hK => ?_) (AllReadyH.cons rfl (fun KK hK => ?_) (AllReadyH.cons rfl (fun KK hK => ?_) AllReadyH.nil)))
              · go_simp
                go_at_call 10
                refine (pRef_any mp4 _).mono ?_
                rintro e w7 ⟨rfl, hb⟩
                have HN1 := hid (HN.out.later hb)
                clear hb HN
                have HN := HN1
                clear HN1
                go_wp2_with fail
                refine hK.out _ _ HN.out.ask.reads (fun hHeld => ?_)
                clear hK KK hHeld
                (try simp only [Act.put, List.getElem_toArray, List.getElem_cons_zero, List.getElem_cons_succ, List.setIfInBounds_toArray, List.set_cons_zero, List.set_cons_succ])
                refine rename_to (MidAt w x0 x1 x2 ⟨ht', hl', hs', hr', hx'⟩ q b vw c vr (tkTake mp4 s ⟨ht', hl', hs', hr', hx'⟩).2 s none none) HN.out ?_
                clear HN
                intro Z hn
                have HN := hid hn
                clear hn
                refine wpAnyH_ready (rs := [8, 9, 10]) (by kernel_rfl) (by simp) (AllReadyH.cons rfl (fun KK hK => ?_) (AllReadyH.cons rfl (fun KK hK => ?_) (AllReadyH.cons rfl (fun KK hK => ?_) AllReadyH.nil)))
                · go_simp
                  go_at_call 15
                  refine (HRT.out _ HN.out.ask.pair.ref).mono ?_
                  rintro e w7 ⟨rfl, hm, hw⟩
                  have HN1 := hid (HN.out.two hm hw)
                  clear hm hw HN
                  have HN := HN1
                  clear HN1
                  go_wp2_with fail
                  refine hK.out _ _ HN.out.ask.reads (fun hHeld => ?_)
                  clear hK KK hHeld
                  (try simp only [Act.put, List.getElem_toArray, List.getElem_cons_zero, List.getElem_cons_succ, List.setIfInBounds_toArray, List.set_cons_zero, List.set_cons_succ])
                  refine rename_to (MidAt w x0 x1 x2 ⟨ht', hl', hs', hr', hx'⟩ q b vw c vr (tkTake mp4 s ⟨ht', hl', hs', hr', hx'⟩).2 (tkTake mp4 s ⟨ht', hl', hs', hr', hx'⟩).2 none none) HN.out ?_
                  clear HN
                  intro Z hn
                  have HN := hid hn
                  clear hn
                  refine wpAnyH_ready (rs := [9, 10]) (by kernel_rfl) (by simp) (AllReadyH.cons rfl (fun KK hK => ?_) (AllReadyH.cons rfl (fun KK hK => ?_) AllReadyH.nil))
                  · have hnew := MidAt.newA HN.out
                    clear HN
                    go_simp
                    generalize Z.heap.size = ga at hnew ⊢
                    have HN := hid hnew
                    clear hnew
                    refine hK.out _ _ HN.out.ask.reads (fun hHeld => ?_)
                    clear hK KK hHeld
                    (try simp only [Act.put, List.getElem_toArray, List.getElem_cons_zero, List.getElem_cons_succ, List.setIfInBounds_toArray, List.set_cons_zero, List.set_cons_succ])
                    refine rename_to (MidAt w x0 x1 x2 ⟨ht', hl', hs', hr', hx'⟩ q b vw c vr (tkTake mp4 s ⟨ht', hl', hs', hr', hx'⟩).2 (tkTake mp4 s ⟨ht', hl', hs', hr', hx'⟩).2 (some ga) none) HN.out ?_
                    clear HN
                    intro Z hn
                    have HN := hid hn
                    clear hn
                    refine wpAnyH_ready (rs := [10]) (by kernel_rfl) (by simp) (AllReadyH.cons rfl (fun KK hK => ?_) AllReadyH.nil)
                    have hnew := MidAt.newB HN.out
                    clear HN
                    go_simp
                    generalize Z.heap.size = gb at hnew ⊢
                    have HN := hid hnew
                    clear hnew
                    refine hK.out _ _ HN.out.ask.reads (fun hHeld => ?_)
                    clear hK KK hHeld
                    (try simp only [Act.put, List.getElem_toArray, List.getElem_cons_zero, List.getElem_cons_succ, List.setIfInBounds_toArray, List.set_cons_zero, List.set_cons_succ])
                    refine rename_to (MidAt w x0 x1 x2 ⟨ht', hl', hs', hr', hx'⟩ q b vw c vr (tkTake mp4 s ⟨ht', hl', hs', hr', hx'⟩).2 (tkTake mp4 s ⟨ht', hl', hs', hr', hx'⟩).2 (some ga) (some gb)) HN.out ?_
                    clear HN
                    intro Z hn
                    have HN := hid hn
                    clear hn
                    exact tail ga gb Z HN.out
                  · have hnew := MidAt.newB HN.out
                    clear HN
                    go_simp
                    generalize Z.heap.size = gb at hnew ⊢
                    have HN := hid hnew
                    clear hnew
                    refine hK.out _ _ HN.out.ask.reads (fun hHeld => ?_)
                    clear hK KK hHeld
                    (try simp only [Act.put, List.getElem_toArray, List.getElem_cons_zero, List.getElem_cons_succ, List.setIfInBounds_toArray, List.set_cons_zero, List.set_cons_succ])
                    refine rename_to (MidAt w x0 x1 x2 ⟨ht', hl', hs', hr', hx'⟩ q b vw c vr (tkTake mp4 s ⟨ht', hl', hs', hr', hx'⟩).2 (tkTake mp4 s ⟨ht', hl', hs', hr', hx'⟩).2 none (some gb)) HN.out ?_
                    clear HN
                    intro Z hn
                    have HN := hid hn
                    clear hn
                    refine wpAnyH_ready (rs := [9]) (by kernel_rfl) (by simp) (AllReadyH.cons rfl (fun KK hK => ?_) AllReadyH.nil)
                    have hnew := MidAt.newA HN.out
                    clear HN
                    go_simp
                    generalize Z.heap.size = ga at hnew ⊢
                    have HN := hid hnew
                    clear hnew
                    refine hK.out _ _ HN.out.ask.reads (fun hHeld => ?_)
                    clear hK KK hHeld
                    (try simp only [Act.put, List.getElem_toArray, List.getElem_cons_zero, List.getElem_cons_succ, List.setIfInBounds_toArray, List.set_cons_zero, List.set_cons_succ])
                    refine rename_to (MidAt w x0 x1 x2 ⟨ht', hl', hs', hr', hx'⟩ q b vw c vr (tkTake mp4 s ⟨ht', hl', hs', hr', hx'⟩).2 (tkTake mp4 s ⟨ht', hl', hs', hr', hx'⟩).2 (some ga) (some gb)) HN.out ?_
                    clear HN
                    intro Z hn
                    have HN := hid hn
                    clear hn
                    exact tail ga gb Z HN.out
                · have hnew := MidAt.newA HN.out
                  clear HN
                  go_simp
                  generalize Z.heap.size = ga at hnew ⊢
                  have HN := hid hnew
                  clear hnew
                  refine hK.out _ _ HN.out.ask.reads (fun hHeld => ?_)
                  clear hK KK hHeld
                  (try simp only [Act.put, List.getElem_toArray, List.getElem_cons_zero, List.getElem_cons_succ, List.setIfInBounds_toArray, List.set_cons_zero, List.set_cons_succ])
                  refine rename_to (MidAt w x0 x1 x2 ⟨ht', hl', hs', hr', hx'⟩ q b vw c vr (tkTake mp4 s ⟨ht', hl', hs', hr', hx'⟩).2 s (some ga) none) HN.out ?_
                  clear HN
                  intro Z hn
                  have HN := hid hn
                  clear hn
                  refine wpAnyH_ready (rs := [8, 10]) (by kernel_rfl) (by simp) (AllReadyH.cons rfl (fun KK hK => ?_) (AllReadyH.cons rfl (fun KK hK => ?_) AllReadyH.nil))
                  · go_simp
                    go_at_call 15
                    refine (HRT.out _ HN.out.ask.pair.ref).mono ?_
                    rintro e w7 ⟨rfl, hm, hw⟩
                    have HN1 := hid (HN.out.two hm hw)
                    clear hm hw HN
                    have HN := HN1
                    clear HN1
                    go_wp2_with fail
                    refine hK.out _ _ HN.out.ask.reads (fun hHeld => ?_)
                    clear hK KK hHeld
                    (try simp only [Act.put, List.getElem_toArray, List.getElem_cons_zero, List.getElem_cons_succ, List.setIfInBounds_toArray, List.set_cons_zero, List.set_cons_succ])
                    refine rename_to (MidAt w x0 x1 x2 ⟨ht', hl', hs', hr', hx'⟩ q b vw c vr (tkTake mp4 s ⟨ht', hl', hs', hr', hx'⟩).2 (tkTake mp4 s ⟨ht', hl', hs', hr', hx'⟩).2 (some ga) none) HN.out ?_
                    clear HN
                    intro Z hn
                    have HN := hid hn
                    clear hn
                    refine wpAnyH_ready (rs := [10]) (by kernel_rfl) (by simp) (AllReadyH.cons rfl (fun KK hK => ?_) AllReadyH.nil)
                    have hnew := MidAt.newB HN.out
                    clear HN
                    go_simp
                    generalize Z.heap.size = gb at hnew ⊢
                    have HN := hid hnew
                    clear hnew
                    refine hK.out _ _ HN.out.ask.reads (fun hHeld => ?_)
                    clear hK KK hHeld
                    (try simp only [Act.put, List.getElem_toArray, List.getElem_cons_zero, List.getElem_cons_succ, List.setIfInBounds_toArray, List.set_cons_zero, List.set_cons_succ])
                    refine rename_to (MidAt w x0 x1 x2 ⟨ht', hl', hs', hr', hx'⟩ q b vw c vr (tkTake mp4 s ⟨ht', hl', hs', hr', hx'⟩).2 (tkTake mp4 s ⟨ht', hl', hs', hr', hx'⟩).2 (some ga) (some gb)) HN.out ?_
                    clear HN
                    intro Z hn
                    have HN := hid hn
                    clear hn
                    exact tail ga gb Z HN.out
                  · have hnew := MidAt.newB HN.out
                    clear HN
                    go_simp
                    generalize Z.heap.size = gb at hnew ⊢
                    have HN := hid hnew
                    clear hnew
                    refine hK.out _ _ HN.out.ask.reads (fun hHeld => ?_)
                    clear hK KK hHeld
                    (try simp only [Act.put, List.getElem_toArray, List.getElem_cons_zero, List.getElem_cons_succ, List.setIfInBounds_toArray, List.set_cons_zero, List.set_cons_succ])
                    refine rename_to (MidAt w x0 x1 x2 ⟨ht', hl', hs', hr', hx'⟩ q b vw c vr (tkTake mp4 s ⟨ht', hl', hs', hr', hx'⟩).2 s (some ga) (some gb)) HN.out ?_
                    clear HN
                    intro Z hn
                    have HN := hid hn
                    clear hn
                    refine wpAnyH_ready (rs := [8]) (by kernel_rfl) (by simp) (AllReadyH.cons rfl (fun KK hK => ?_) AllReadyH.nil)
                    go_simp
                    go_at_call 15
                    refine (HRT.out _ HN.out.ask.pair.ref).mono ?_
                    rintro e w7 ⟨rfl, hm, hw⟩
                    have HN1 := hid (HN.out.two hm hw)
                    clear hm hw HN
                    have HN := HN1
                    clear HN1
                    go_wp2_with fail
                    refine hK.out _ _ HN.out.ask.reads (fun hHeld => ?_)
                    clear hK KK hHeld
                    (try simp only [Act.put, List.getElem_toArray, List.getElem_cons_zero, List.getElem_cons_succ, List.setIfInBounds_toArray, List.set_cons_zero, List.set_cons_succ])
                    refine rename_to (MidAt w x0 x1 x2 ⟨ht', hl', hs', hr', hx'⟩ q b vw c vr (tkTake mp4 s ⟨ht', hl', hs', hr', hx'⟩).2 (tkTake mp4 s ⟨ht', hl', hs', hr', hx'⟩).2 (some ga) (some gb)) HN.out ?_
                    clear HN
                    intro Z hn
                    have HN := hid hn
                    clear hn
                    exact tail ga gb Z HN.out
                · have hnew := MidAt.newB HN.out
                  clear HN
                  go_simp
                  generalize Z.heap.size = gb at hnew ⊢
                  have HN := hid hnew
                  clear hnew
                  refine hK.out _ _ HN.out.ask.reads (fun hHeld => ?_)
                  clear hK KK hHeld
                  (try simp only [Act.put, List.getElem_toArray, List.getElem_cons_zero, List.getElem_cons_succ, List.setIfInBounds_toArray, List.set_cons_zero, List.set_cons_succ])
                  refine rename_to (MidAt w x0 x1 x2 ⟨ht', hl', hs', hr', hx'⟩ q b vw c vr (tkTake mp4 s ⟨ht', hl', hs', hr', hx'⟩).2 s none (some gb)) HN.out ?_
                  clear HN
                  intro Z hn
                  have HN := hid hn
                  clear hn
                  refine wpAnyH_ready (rs := [8, 9]) (by kernel_rfl) (by simp) (AllReadyH.cons rfl (fun KK hK => ?_) (AllReadyH.cons rfl (fun KK hK => ?_) AllReadyH.nil))
                  · go_simp
                    go_at_call 15
                    refine (HRT.out _ HN.out.ask.pair.ref).mono ?_
                    rintro e w7 ⟨rfl, hm, hw⟩
                    have HN1 := hid (HN.out.two hm hw)
                    clear hm hw HN
                    have HN := HN1
                    clear HN1
                    go_wp2_with fail
                    refine hK.out _ _ HN.out.ask.reads (fun hHeld => ?_)
                    clear hK KK hHeld
                    (try simp only [Act.put, List.getElem_toArray, List.getElem_cons_zero, List.getElem_cons_succ, List.setIfInBounds_toArray, List.set_cons_zero, List.set_cons_succ])
                    refine rename_to (MidAt w x0 x1 x2 ⟨ht', hl', hs', hr', hx'⟩ q b vw c vr (tkTake mp4 s ⟨ht', hl', hs', hr', hx'⟩).2 (tkTake mp4 s ⟨ht', hl', hs', hr', hx'⟩).2 none (some gb)) HN.out ?_
                    clear HN
                    intro Z hn
                    have HN := hid hn
                    clear hn
                    refine wpAnyH_ready (rs := [9]) (by kernel_rfl) (by simp) (AllReadyH.cons rfl (fun KK hK => ?_) AllReadyH.nil)
                    have hnew := MidAt.newA HN.out
                    clear HN
                    go_simp
                    generalize Z.heap.size = ga at hnew ⊢
                    have HN := hid hnew
                    clear hnew
                    refine hK.out _ _ HN.out.ask.reads (fun hHeld => ?_)
                    clear hK KK hHeld
                    (try simp only [Act.put, List.getElem_toArray, List.getElem_cons_zero, List.getElem_cons_succ, List.setIfInBounds_toArray, List.set_cons_zero, List.set_cons_succ])
                    refine rename_to (MidAt w x0 x1 x2 ⟨ht', hl', hs', hr', hx'⟩ q b vw c vr (tkTake mp4 s ⟨ht', hl', hs', hr', hx'⟩).2 (tkTake mp4 s ⟨ht', hl', hs', hr', hx'⟩).2 (some ga) (some gb)) HN.out ?_
                    clear HN
                    intro Z hn
                    have HN := hid hn
                    clear hn
                    exact tail ga gb Z HN.out
                  · have hnew := MidAt.newA HN.out
                    clear HN
                    go_simp
                    generalize Z.heap.size = ga at hnew ⊢
                    have HN := hid hnew
                    clear hnew
                    refine hK.out _ _ HN.out.ask.reads (fun hHeld => ?_)
                    clear hK KK hHeld
                    (try simp only [Act.put, List.getElem_toArray, List.getElem_cons_zero, List.getElem_cons_succ, List.setIfInBounds_toArray, List.set_cons_zero, List.set_cons_succ])
                    refine rename_to (MidAt w x0 x1 x2 ⟨ht', hl', hs', hr', hx'⟩ q b vw c vr (tkTake mp4 s ⟨ht', hl', hs', hr', hx'⟩).2 s (some ga) (some gb)) HN.out ?_
                    clear HN
                    intro Z hn
                    have HN := hid hn
                    clear hn
                    refine wpAnyH_ready (rs := [8]) (by kernel_rfl) (by simp) (AllReadyH.cons rfl (fun KK hK => ?_) AllReadyH.nil)
                    go_simp
                    go_at_call 15
                    refine (HRT.out _ HN.out.ask.pair.ref).mono ?_
                    rintro e w7 ⟨rfl, hm, hw⟩
                    have HN1 := hid (HN.out.two hm hw)
                    clear hm hw HN
                    have HN := HN1
                    clear HN1
                    go_wp2_with fail
                    refine hK.out _ _ HN.out.ask.reads (fun hHeld => ?_)
                    clear hK KK hHeld
                    (try simp only [Act.put, List.getElem_toArray, List.getElem_cons_zero, List.getElem_cons_succ, List.setIfInBounds_toArray, List.set_cons_zero, List.set_cons_succ])
                    refine rename_to (MidAt w x0 x1 x2 ⟨ht', hl', hs', hr', hx'⟩ q b vw c vr (tkTake mp4 s ⟨ht', hl', hs', hr', hx'⟩).2 (tkTake mp4 s ⟨ht', hl', hs', hr', hx'⟩).2 (some ga) (some gb)) HN.out ?_
                    clear HN
                    intro Z hn
                    have HN := hid hn
                    clear hn
                    exact tail ga gb Z HN.out
              · have hnew := MidAt.newA HN.out
                clear HN
                go_simp
                generalize Z.heap.size = ga at hnew ⊢
                have HN := hid hnew
                clear hnew
                refine hK.out _ _ HN.out.ask.reads (fun hHeld => ?_)
                clear hK KK hHeld
                (try simp only [Act.put, List.getElem_toArray, List.getElem_cons_zero, List.getElem_cons_succ, List.setIfInBounds_toArray, List.set_cons_zero, List.set_cons_succ])
                refine rename_to (MidAt w x0 x1 x2 ⟨ht', hl', hs', hr', hx'⟩ q b vw c vr (tkTake mp4 s ⟨ht', hl', hs', hr', hx'⟩).2 s (some ga) none) HN.out ?_
                clear HN
                intro Z hn
                have HN := hid hn
                clear hn
                refine wpAnyH_ready (rs := [5, 10]) (by kernel_rfl) (by simp) (AllReadyH.cons rfl (fun KK hK => ?_) (AllReadyH.cons rfl (fun KK hK => ?_) AllReadyH.nil))
                · go_simp
                  go_at_call 10
                  refine (pRef_any mp4 _).mono ?_
                  rintro e w7 ⟨rfl, hb⟩
                  have HN1 := hid (HN.out.later hb)
                  clear hb HN
                  have HN := HN1
                  clear HN1
                  go_wp2_with fail
                  refine hK.out _ _ HN.out.ask.reads (fun hHeld => ?_)
                  clear hK KK hHeld
                  (try simp only [Act.put, List.getElem_toArray, List.getElem_cons_zero, List.getElem_cons_succ, List.setIfInBounds_toArray, List.set_cons_zero, List.set_cons_succ])
                  refine rename_to (MidAt w x0 x1 x2 ⟨ht', hl', hs', hr', hx'⟩ q b vw c vr (tkTake mp4 s ⟨ht', hl', hs', hr', hx'⟩).2 s (some ga) none) HN.out ?_
                  clear HN
                  intro Z hn
                  have HN := hid hn
                  clear hn
                  refine wpAnyH_ready (rs := [8, 10]) (by kernel_rfl) (by simp) (AllReadyH.cons rfl (fun KK hK => ?_) (AllReadyH.cons rfl (fun KK hK => ?_) AllReadyH.nil))
                  · go_simp
                    go_at_call 15
                    refine (HRT.out _ HN.out.ask.pair.ref).mono ?_
                    rintro e w7 ⟨rfl, hm, hw⟩
                    have HN1 := hid (HN.out.two hm hw)
                    clear hm hw HN
                    have HN := HN1
                    clear HN1
                    go_wp2_with fail
                    refine hK.out _ _ HN.out.ask.reads (fun hHeld => ?_)
                    clear hK KK hHeld
                    (try simp only [Act.put, List.getElem_toArray, List.getElem_cons_zero, List.getElem_cons_succ, List.setIfInBounds_toArray, List.set_cons_zero, List.set_cons_succ])
                    refine rename_to (MidAt w x0 x1 x2 ⟨ht', hl', hs', hr', hx'⟩ q b vw c vr (tkTake mp4 s ⟨ht', hl', hs', hr', hx'⟩).2 (tkTake mp4 s ⟨ht', hl', hs', hr', hx'⟩).2 (some ga) none) HN.out ?_
                    clear HN
                    intro Z hn
                    have HN := hid hn
                    clear hn
                    refine wpAnyH_ready (rs := [10]) (by kernel_rfl) (by simp) (AllReadyH.cons rfl (fun KK hK => ?_) AllReadyH.nil)
                    have hnew := MidAt.newB HN.out
                    clear HN
                    go_simp
                    generalize Z.heap.size = gb at hnew ⊢
                    have HN := hid hnew
                    clear hnew
                    refine hK.out _ _ HN.out.ask.reads (fun hHeld => ?_)
                    clear hK KK hHeld
                    (try simp only [Act.put, List.getElem_toArray, List.getElem_cons_zero, List.getElem_cons_succ, List.setIfInBounds_toArray, List.set_cons_zero, List.set_cons_succ])
                    refine rename_to (MidAt w x0 x1 x2 ⟨ht', hl', hs', hr', hx'⟩ q b vw c vr (tkTake mp4 s ⟨ht', hl', hs', hr', hx'⟩).2 (tkTake mp4 s ⟨ht', hl', hs', hr', hx'⟩).2 (some ga) (some gb)) HN.out ?_
                    clear HN
                    intro Z hn
                    have HN := hid hn
                    clear hn
                    exact tail ga gb Z HN.out
                  · have hnew := MidAt.newB HN.out
                    clear HN
                    go_simp
                    generalize Z.heap.size = gb at hnew ⊢
                    have HN := hid hnew
                    clear hnew
                    refine hK.out _ _ HN.out.ask.reads (fun hHeld => ?_)
                    clear hK KK hHeld
                    (try simp only [Act.put, List.getElem_toArray, List.getElem_cons_zero, List.getElem_cons_succ, List.setIfInBounds_toArray, List.set_cons_zero, List.set_cons_succ])
                    refine rename_to (MidAt w x0 x1 x2 ⟨ht', hl', hs', hr', hx'⟩ q b vw c vr (tkTake mp4 s ⟨ht', hl', hs', hr', hx'⟩).2 s (some ga) (some gb)) HN.out ?_
                    clear HN
                    intro Z hn
                    have HN := hid hn
                    clear hn
                    refine wpAnyH_ready (rs := [8]) (by kernel_rfl) (by simp) (AllReadyH.cons rfl (fun KK hK => ?_) AllReadyH.nil)
                    go_simp
                    go_at_call 15
                    refine (HRT.out _ HN.out.ask.pair.ref).mono ?_
                    rintro e w7 ⟨rfl, hm, hw⟩
                    have HN1 := hid (HN.out.two hm hw)
                    clear hm hw HN
                    have HN := HN1
                    clear HN1
                    go_wp2_with fail
                    refine hK.out _ _ HN.out.ask.reads (fun hHeld => ?_)
                    clear hK KK hHeld
                    (try simp only [Act.put, List.getElem_toArray, List.getElem_cons_zero, List.getElem_cons_succ, List.setIfInBounds_toArray, List.set_cons_zero, List.set_cons_succ])
                    refine rename_to (MidAt w x0 x1 x2 ⟨ht', hl', hs', hr', hx'⟩ q b vw c vr (tkTake mp4 s ⟨ht', hl', hs', hr', hx'⟩).2 (tkTake mp4 s ⟨ht', hl', hs', hr', hx'⟩).2 (some ga) (some gb)) HN.out ?_
                    clear HN
                    intro Z hn
                    have HN := hid hn
                    clear hn
                    exact tail ga gb Z HN.out
                · have hnew := MidAt.newB HN.out
                  clear HN
                  go_simp
                  generalize Z.heap.size = gb at hnew ⊢
                  have HN := hid hnew
                  clear hnew
                  refine hK.out _ _ HN.out.ask.reads (fun hHeld => ?_)
                  clear hK KK hHeld
                  (try simp only [Act.put, List.getElem_toArray, List.getElem_cons_zero, List.getElem_cons_succ, List.setIfInBounds_toArray, List.set_cons_zero, List.set_cons_succ])
                  refine rename_to (MidAt w x0 x1 x2 ⟨ht', hl', hs', hr', hx'⟩ q b vw c vr (tkTake mp4 s ⟨ht', hl', hs', hr', hx'⟩).2 s (some ga) (some gb)) HN.out ?_
                  clear HN
                  intro Z hn
                  have HN := hid hn
                  clear hn
                  refine wpAnyH_ready (rs := [5]) (by kernel_rfl) (by simp) (AllReadyH.cons rfl (fun KK hK => ?_) AllReadyH.nil)
                  go_simp
                  go_at_call 10
                  refine (pRef_any mp4 _).mono ?_
                  rintro e w7 ⟨rfl, hb⟩
                  have HN1 := hid (HN.out.later hb)
                  clear hb HN
                  have HN := HN1
                  clear HN1
                  go_wp2_with fail
                  refine hK.out _ _ HN.out.ask.reads (fun hHeld => ?_)
                  clear hK KK hHeld
                  (try simp only [Act.put, List.getElem_toArray, List.getElem_cons_zero, List.getElem_cons_succ, List.setIfInBounds_toArray, List.set_cons_zero, List.set_cons_succ])
                  refine rename_to (MidAt w x0 x1 x2 ⟨ht', hl', hs', hr', hx'⟩ q b vw c vr (tkTake mp4 s ⟨ht', hl', hs', hr', hx'⟩).2 s (some ga) (some gb)) HN.out ?_
                  clear HN
                  intro Z hn
                  have HN := hid hn
                  clear hn
                  refine wpAnyH_ready (rs := [8]) (by kernel_rfl) (by simp) (AllReadyH.cons rfl (fun KK hK => ?_) AllReadyH.nil)
                  go_simp
                  go_at_call 15
                  refine (HRT.out _ HN.out.ask.pair.ref).mono ?_
                  rintro e w7 ⟨rfl, hm, hw⟩
                  have HN1 := hid (HN.out.two hm hw)
                  clear hm hw HN
                  have HN := HN1
                  clear HN1
                  go_wp2_with fail
                  refine hK.out _ _ HN.out.ask.reads (fun hHeld => ?_)
                  clear hK KK hHeld
                  (try simp only [Act.put, List.getElem_toArray, List.getElem_cons_zero, List.getElem_cons_succ, List.setIfInBounds_toArray, List.set_cons_zero, List.set_cons_succ])
                  refine rename_to (MidAt w x0 x1 x2 ⟨ht', hl', hs', hr', hx'⟩ q b vw c vr (tkTake mp4 s ⟨ht', hl', hs', hr', hx'⟩).2 (tkTake mp4 s ⟨ht', hl', hs', hr', hx'⟩).2 (some ga) (some gb)) HN.out ?_
                  clear HN
                  intro Z hn
                  have HN := hid hn
                  clear hn
                  exact tail ga gb Z HN.out
              · have hnew := MidAt.newB HN.out
                clear HN
                go_simp
                generalize Z.heap.size = gb at hnew ⊢
                have HN := hid hnew
                clear hnew
                refine hK.out _ _ HN.out.ask.reads (fun hHeld => ?_)
                clear hK KK hHeld
                (try simp only [Act.put, List.getElem_toArray, List.getElem_cons_zero, List.getElem_cons_succ, List.setIfInBounds_toArray, List.set_cons_zero, List.set_cons_succ])
                refine rename_to (MidAt w x0 x1 x2 ⟨ht', hl', hs', hr', hx'⟩ q b vw c vr (tkTake mp4 s ⟨ht', hl', hs', hr', hx'⟩).2 s none (some gb)) HN.out ?_
                clear HN
                intro Z hn
                have HN := hid hn
                clear hn
                refine wpAnyH_ready (rs := [5, 9]) (by kernel_rfl) (by simp) (AllReadyH.cons rfl (fun KK hK => ?_) (AllReadyH.cons rfl (fun KK hK => ?_) AllReadyH.nil))
                · go_simp
                  go_at_call 10
                  refine (pRef_any mp4 _).mono ?_
                  rintro e w7 ⟨rfl, hb⟩
                  have HN1 := hid (HN.out.later hb)
                  clear hb HN
                  have HN := HN1
                  clear HN1
                  go_wp2_with fail
                  refine hK.out _ _ HN.out.ask.reads (fun hHeld => ?_)
                  clear hK KK hHeld
                  (try simp only [Act.put, List.getElem_toArray, List.getElem_cons_zero, List.getElem_cons_succ, List.setIfInBounds_toArray, List.set_cons_zero, List.set_cons_succ])
                  refine rename_to (MidAt w x0 x1 x2 ⟨ht', hl', hs', hr', hx'⟩ q b vw c vr (tkTake mp4 s ⟨ht', hl', hs', hr', hx'⟩).2 s none (some gb)) HN.out ?_
                  clear HN
                  intro Z hn
                  have HN := hid hn
                  clear hn
                  refine wpAnyH_ready (rs := [8, 9]) (by kernel_rfl) (by simp) (AllReadyH.cons rfl (fun KK hK => ?_) (AllReadyH.cons rfl (fun KK hK => ?_) AllReadyH.nil))
                  · go_simp
                    go_at_call 15
                    refine (HRT.out _ HN.out.ask.pair.ref).mono ?_
                    rintro e w7 ⟨rfl, hm, hw⟩
                    have HN1 := hid (HN.out.two hm hw)
                    clear hm hw HN
                    have HN := HN1
                    clear HN1
                    go_wp2_with fail
                    refine hK.out _ _ HN.out.ask.reads (fun hHeld => ?_)
                    clear hK KK hHeld
                    (try simp only [Act.put, List.getElem_toArray, List.getElem_cons_zero, List.getElem_cons_succ, List.setIfInBounds_toArray, List.set_cons_zero, List.set_cons_succ])
                    refine rename_to (MidAt w x0 x1 x2 ⟨ht', hl', hs', hr', hx'⟩ q b vw c vr (tkTake mp4 s ⟨ht', hl', hs', hr', hx'⟩).2 (tkTake mp4 s ⟨ht', hl', hs', hr', hx'⟩).2 none (some gb)) HN.out ?_
                    clear HN
                    intro Z hn
                    have HN := hid hn
                    clear hn
                    refine wpAnyH_ready (rs := [9]) (by kernel_rfl) (by simp) (AllReadyH.cons rfl (fun KK hK => ?_) AllReadyH.nil)
                    have hnew := MidAt.newA HN.out
                    clear HN
                    go_simp
                    generalize Z.heap.size = ga at hnew ⊢
                    have HN := hid hnew
                    clear hnew
                    refine hK.out _ _ HN.out.ask.reads (fun hHeld => ?_)
                    clear hK KK hHeld
                    (try simp only [Act.put, List.getElem_toArray, List.getElem_cons_zero, List.getElem_cons_succ, List.setIfInBounds_toArray, List.set_cons_zero, List.set_cons_succ])
                    refine rename_to (MidAt w x0 x1 x2 ⟨ht', hl', hs', hr', hx'⟩ q b vw c vr (tkTake mp4 s ⟨ht', hl', hs', hr', hx'⟩).2 (tkTake mp4 s ⟨ht', hl', hs', hr', hx'⟩).2 (some ga) (some gb)) HN.out ?_
                    clear HN
                    intro Z hn
                    have HN := hid hn
                    clear hn
                    exact tail ga gb Z HN.out
                  · have hnew := MidAt.newA HN.out
                    clear HN
                    go_simp
                    generalize Z.heap.size = ga at hnew ⊢
                    have HN := hid hnew
                    clear hnew
                    refine hK.out _ _ HN.out.ask.reads (fun hHeld => ?_)
                    clear hK KK hHeld
                    (try simp only [Act.put, List.getElem_toArray, List.getElem_cons_zero, List.getElem_cons_succ, List.setIfInBounds_toArray, List.set_cons_zero, List.set_cons_succ])
                    refine rename_to (MidAt w x0 x1 x2 ⟨ht', hl', hs', hr', hx'⟩ q b vw c vr (tkTake mp4 s ⟨ht', hl', hs', hr', hx'⟩).2 s (some ga) (some gb)) HN.out ?_
                    clear HN
                    intro Z hn
                    have HN := hid hn
                    clear hn
                    refine wpAnyH_ready (rs := [8]) (by kernel_rfl) (by simp) (AllReadyH.cons rfl (fun KK hK => ?_) AllReadyH.nil)
                    go_simp
                    go_at_call 15
                    refine (HRT.out _ HN.out.ask.pair.ref).mono ?_
                    rintro e w7 ⟨rfl, hm, hw⟩
                    have HN1 := hid (HN.out.two hm hw)
                    clear hm hw HN
                    have HN := HN1
                    clear HN1
                    go_wp2_with fail
                    refine hK.out _ _ HN.out.ask.reads (fun hHeld => ?_)
                    clear hK KK hHeld
                    (try simp only [Act.put, List.getElem_toArray, List.getElem_cons_zero, List.getElem_cons_succ, List.setIfInBounds_toArray, List.set_cons_zero, List.set_cons_succ])
                    refine rename_to (MidAt w x0 x1 x2 ⟨ht', hl', hs', hr', hx'⟩ q b vw c vr (tkTake mp4 s ⟨ht', hl', hs', hr', hx'⟩).2 (tkTake mp4 s ⟨ht', hl', hs', hr', hx'⟩).2 (some ga) (some gb)) HN.out ?_
                    clear HN
                    intro Z hn
                    have HN := hid hn
                    clear hn
                    exact tail ga gb Z HN.out
                · have hnew := MidAt.newA HN.out
                  clear HN
                  go_simp
                  generalize Z.heap.size = ga at hnew ⊢
                  have HN := hid hnew
                  clear hnew
                  refine hK.out _ _ HN.out.ask.reads (fun hHeld => ?_)
                  clear hK KK hHeld
                  (try simp only [Act.put, List.getElem_toArray, List.getElem_cons_zero, List.getElem_cons_succ, List.setIfInBounds_toArray, List.set_cons_zero, List.set_cons_succ])
                  refine rename_to (MidAt w x0 x1 x2 ⟨ht', hl', hs', hr', hx'⟩ q b vw c vr (tkTake mp4 s ⟨ht', hl', hs', hr', hx'⟩).2 s (some ga) (some gb)) HN.out ?_
                  clear HN
                  intro Z hn
                  have HN := hid hn
                  clear hn
                  refine wpAnyH_ready (rs := [5]) (by kernel_rfl) (by simp) (AllReadyH.cons rfl (fun KK hK => ?_) AllReadyH.nil)
                  go_simp
                  go_at_call 10
                  refine (pRef_any mp4 _).mono ?_
                  rintro e w7 ⟨rfl, hb⟩
                  have HN1 := hid (HN.out.later hb)
                  clear hb HN
                  have HN := HN1
                  clear HN1
                  go_wp2_with fail
                  refine hK.out _ _ HN.out.ask.reads (fun hHeld => ?_)
                  clear hK KK hHeld
                  (try simp only [Act.put, List.getElem_toArray, List.getElem_cons_zero, List.getElem_cons_succ, List.setIfInBounds_toArray, List.set_cons_zero, List.set_cons_succ])
                  refine rename_to (MidAt w x0 x1 x2 ⟨ht', hl', hs', hr', hx'⟩ q b vw c vr (tkTake mp4 s ⟨ht', hl', hs', hr', hx'⟩).2 s (some ga) (some gb)) HN.out ?_
                  clear HN
                  intro Z hn
                  have HN := hid hn
                  clear hn
                  refine wpAnyH_ready (rs := [8]) (by kernel_rfl) (by simp) (AllReadyH.cons rfl (fun KK hK => ?_) AllReadyH.nil)
                  go_simp
                  go_at_call 15
                  refine (HRT.out _ HN.out.ask.pair.ref).mono ?_
                  rintro e w7 ⟨rfl, hm, hw⟩
                  have HN1 := hid (HN.out.two hm hw)
                  clear hm hw HN
                  have HN := HN1
                  clear HN1
                  go_wp2_with fail
                  refine hK.out _ _ HN.out.ask.reads (fun hHeld => ?_)
                  clear hK KK hHeld
                  (try simp only [Act.put, List.getElem_toArray, List.getElem_cons_zero, List.getElem_cons_succ, List.setIfInBounds_toArray, List.set_cons_zero, List.set_cons_succ])
                  refine rename_to (MidAt w x0 x1 x2 ⟨ht', hl', hs', hr', hx'⟩ q b vw c vr (tkTake mp4 s ⟨ht', hl', hs', hr', hx'⟩).2 (tkTake mp4 s ⟨ht', hl', hs', hr', hx'⟩).2 (some ga) (some gb)) HN.out ?_
                  clear HN
                  intro Z hn
                  have HN := hid hn
                  clear hn
                  exact tail ga gb Z HN.out
            · have hnew := MidAt.newA HN.out
              clear HN
              go_simp
              generalize Z.heap.size = ga at hnew ⊢
              have HN := hid hnew
              clear hnew
              refine hK.out _ _ HN.out.ask.reads (fun hHeld => ?_)
              clear hK KK hHeld
              (try simp only [Act.put, List.getElem_toArray, List.getElem_cons_zero, List.getElem_cons_succ, List.setIfInBounds_toArray, List.set_cons_zero, List.set_cons_succ])
              refine rename_to (MidAt w x0 x1 x2 ⟨ht', hl', hs', hr', hx'⟩ q b vw c vr s s (some ga) none) HN.out ?_
              clear HN
              intro Z hn
              have HN := hid hn
              clear hn
              refine wpAnyH_ready (rs := [3, 10]) (by kernel_rfl) (by simp) (AllReadyH.cons rfl (fun KK hK => ?_) (AllReadyH.cons rfl (fun KK hK => ?_) AllReadyH.nil))
              · go_simp
                go_at_call 14
                refine (HTK.out _ HN.out.ask.pair.mem).mono ?_
                rintro e w7 ⟨rfl, hm, hw⟩
                have HN1 := hid (HN.out.one hm hw)
                clear hm hw HN
                have HN := HN1
                clear HN1
                go_wp2_with fail
                refine hK.out _ _ HN.out.ask.reads (fun hHeld => ?_)
                clear hK KK hHeld
                (try simp only [Act.put, List.getElem_toArray, List.getElem_cons_zero, List.getElem_cons_succ, List.setIfInBounds_toArray, List.set_cons_zero, List.set_cons_succ])
                refine rename_to (MidAt w x0 x1 x2 ⟨ht', hl', hs', hr', hx'⟩ q b vw c vr (tkTake mp4 s ⟨ht', hl', hs', hr', hx'⟩).2 s (some ga) none) HN.out ?_
                clear HN
                intro Z hn
                have HN := hid hn
                clear hn
                refine wpAnyH_ready (rs := [5, 10]) (by kernel_rfl) (by simp) (AllReadyH.cons rfl (fun KK hK => ?_) (AllReadyH.cons rfl (fun KK hK => ?_) AllReadyH.nil))
                · go_simp
                  go_at_call 10
                  refine (pRef_any mp4 _).mono ?_
                  rintro e w7 ⟨rfl, hb⟩
                  have HN1 := hid (HN.out.later hb)
                  clear hb HN
                  have HN := HN1
                  clear HN1
                  go_wp2_with fail
                  refine hK.out _ _ HN.out.ask.reads (fun hHeld => ?_)
                  clear hK KK hHeld
                  (try simp only [Act.put, List.getElem_toArray, List.getElem_cons_zero, List.getElem_cons_succ, List.setIfInBounds_toArray, List.set_cons_zero, List.set_cons_succ])
                  refine rename_to (MidAt w x0 x1 x2 ⟨ht', hl', hs', hr', hx'⟩ q b vw c vr (tkTake mp4 s ⟨ht', hl', hs', hr', hx'⟩).2 s (some ga) none) HN.out ?_
                  clear HN
                  intro Z hn
                  have HN := hid hn
                  clear hn
                  refine wpAnyH_ready (rs := [8, 10]) (by kernel_rfl) (by simp) (AllReadyH.cons rfl (fun KK hK => ?_) (AllReadyH.cons rfl (fun KK hK => ?_) AllReadyH.nil))
                  · go_simp
                    go_at_call 15
                    refine (HRT.out _ HN.out.ask.pair.ref).mono ?_
                    rintro e w7 ⟨rfl, hm, hw⟩
                    have HN1 := hid (HN.out.two hm hw)
                    clear hm hw HN
                    have HN := HN1
                    clear HN1
                    go_wp2_with fail
                    refine hK.out _ _ HN.out.ask.reads (fun hHeld => ?_)
                    clear hK KK hHeld
                    (try simp only [Act.put, List.getElem_toArray, List.getElem_cons_zero, List.getElem_cons_succ, List.setIfInBounds_toArray, List.set_cons_zero, List.set_cons_succ])
                    refine rename_to (MidAt w x0 x1 x2 ⟨ht', hl', hs', hr', hx'⟩ q b vw c vr (tkTake mp4 s ⟨ht', hl', hs', hr', hx'⟩).2 (tkTake mp4 s ⟨ht', hl', hs', hr', hx'⟩).2 (some ga) none) HN.out ?_
                    clear HN
                    intro Z hn
                    have HN := hid hn
                    clear hn
                    refine wpAnyH_ready (rs := [10]) (by kernel_rfl) (by simp) (AllReadyH.cons rfl (fun KK hK => ?_) AllReadyH.nil)
                    have hnew := MidAt.newB HN.out
                    clear HN
                    go_simp
                    generalize Z.heap.size = gb at hnew ⊢
                    have HN := hid hnew
                    clear hnew
                    refine hK.out _ _ HN.out.ask.reads (fun hHeld => ?_)
                    clear hK KK hHeld
                    (try simp only [Act.put, List.getElem_toArray, List.getElem_cons_zero, List.getElem_cons_succ, List.setIfInBounds_toArray, List.set_cons_zero, List.set_cons_succ])
                    refine rename_to (MidAt w x0 x1 x2 ⟨ht', hl', hs', hr', hx'⟩ q b vw c vr (tkTake mp4 s ⟨ht', hl', hs', hr', hx'⟩).2 (tkTake mp4 s ⟨ht', hl', hs', hr', hx'⟩).2 (some ga) (some gb)) HN.out ?_
                    clear HN
                    intro Z hn
                    have HN := hid hn
                    clear hn
                    exact tail ga gb Z HN.out
                  · have hnew := MidAt.newB HN.out
                    clear HN
                    go_simp
                    generalize Z.heap.size = gb at hnew ⊢
                    have HN := hid hnew
                    clear hnew
                    refine hK.out _ _ HN.out.ask.reads (fun hHeld => ?_)
                    clear hK KK hHeld
                    (try simp only [Act.put, List.getElem_toArray, List.getElem_cons_zero, List.getElem_cons_succ, List.setIfInBounds_toArray, List.set_cons_zero, List.set_cons_succ])
                    refine rename_to (MidAt w x0 x1 x2 ⟨ht', hl', hs', hr', hx'⟩ q b vw c vr (tkTake mp4 s ⟨ht', hl', hs', hr', hx'⟩).2 s (some ga) (some gb)) HN.out ?_
                    clear HN
                    intro Z hn
                    have HN := hid hn
                    clear hn
                    refine wpAnyH_ready (rs := [8]) (by kernel_rfl) (by simp) (AllReadyH.cons rfl (fun KK hK => ?_) AllReadyH.nil)
                    go_simp
                    go_at_call 15
                    refine (HRT.out _ HN.out.ask.pair.ref).mono ?_
                    rintro e w7 ⟨rfl, hm, hw⟩
                    have HN1 := hid (HN.out.two hm hw)
                    clear hm hw HN
                    have HN := HN1
                    clear HN1
                    go_wp2_with fail
                    refine hK.out _ _ HN.out.ask.reads (fun hHeld => ?_)
                    clear hK KK hHeld
                    (try simp only [Act.put, List.getElem_toArray, List.getElem_cons_zero, List.getElem_cons_succ, List.setIfInBounds_toArray, List.set_cons_zero, List.set_cons_succ])
                    refine rename_to (MidAt w x0 x1 x2 ⟨ht', hl', hs', hr', hx'⟩ q b vw c vr (tkTake mp4 s ⟨ht', hl', hs', hr', hx'⟩).2 (tkTake mp4 s ⟨ht', hl', hs', hr', hx'⟩).2 (some ga) (some gb)) HN.out ?_
                    clear HN
                    intro Z hn
                    have HN := hid hn
                    clear hn
                    exact tail ga gb Z HN.out
                · have hnew := MidAt.newB HN.out
                  clear HN
                  go_simp
                  generalize Z.heap.size = gb at hnew ⊢
                  have HN := hid hnew
                  clear hnew
                  refine hK.out _ _ HN.out.ask.reads (fun hHeld => ?_)
                  clear hK KK hHeld
                  (try simp only [Act.put, List.getElem_toArray, List.getElem_cons_zero, List.getElem_cons_succ, List.setIfInBounds_toArray, List.set_cons_zero, List.set_cons_succ])
                  refine rename_to (MidAt w x0 x1 x2 ⟨ht', hl', hs', hr', hx'⟩ q b vw c vr (tkTake mp4 s ⟨ht', hl', hs', hr', hx'⟩).2 s (some ga) (some gb)) HN.out ?_
                  clear HN
                  intro Z hn
                  have HN := hid hn
                  clear hn
                  refine wpAnyH_ready (rs := [5]) (by kernel_rfl) (by simp) (AllReadyH.cons rfl (fun KK hK => ?_) AllReadyH.nil)
                  go_simp
                  go_at_call 10
                  refine (pRef_any mp4 _).mono ?_
                  rintro e w7 ⟨rfl, hb⟩
                  have HN1 := hid (HN.out.later hb)
                  clear hb HN
                  have HN := HN1
                  clear HN1
                  go_wp2_with fail
                  refine hK.out _ _ HN.out.ask.reads (fun hHeld => ?_)
                  clear hK KK hHeld
                  (try simp only [Act.put, List.getElem_toArray, List.getElem_cons_zero, List.getElem_cons_succ, List.setIfInBounds_toArray, List.set_cons_zero, List.set_cons_succ])
                  refine rename_to (MidAt w x0 x1 x2 ⟨ht', hl', hs', hr', hx'⟩ q b vw c vr (tkTake mp4 s ⟨ht', hl', hs', hr', hx'⟩).2 s (some ga) (some gb)) HN.out ?_
                  clear HN
                  intro Z hn
                  have HN := hid hn
                  clear hn
                  refine wpAnyH_ready (rs := [8]) (by kernel_rfl) (by simp) (AllReadyH.cons rfl (fun KK hK => ?_) AllReadyH.nil)
                  go_simp
                  go_at_call 15
                  refine (HRT.out _ HN.out.ask.pair.ref).mono ?_
                  rintro e w7 ⟨rfl, hm, hw⟩
                  have HN1 := hid (HN.out.two hm hw)
                  clear hm hw HN
                  have HN := HN1
                  clear HN1
                  go_wp2_with fail
                  refine hK.out _ _ HN.out.ask.reads (fun hHeld => ?_)
                  clear hK KK hHeld
                  (try simp only [Act.put, List.getElem_toArray, List.getElem_cons_zero, List.getElem_cons_succ, List.setIfInBounds_toArray, List.set_cons_zero, List.set_cons_succ])
                  refine rename_to (MidAt w x0 x1 x2 ⟨ht', hl', hs', hr', hx'⟩ q b vw c vr (tkTake mp4 s ⟨ht', hl', hs', hr', hx'⟩).2 (tkTake mp4 s ⟨ht', hl', hs', hr', hx'⟩).2 (some ga) (some gb)) HN.out ?_
                  clear HN
                  intro Z hn
                  have HN := hid hn
                  clear hn
                  exact tail ga gb Z HN.out
              · have hnew := MidAt.newB HN.out
                clear HN
                go_simp
                generalize Z.heap.size = gb at hnew ⊢
                have HN := hid hnew
                clear hnew
                refine hK.out _ _ HN.out.ask.reads (fun hHeld => ?_)
                clear hK KK hHeld
                (try simp only [Act.put, List.getElem_toArray, List.getElem_cons_zero, List.getElem_cons_succ, List.setIfInBounds_toArray, List.set_cons_zero, List.set_cons_succ])
                refine rename_to (MidAt w x0 x1 x2 ⟨ht', hl', hs', hr', hx'⟩ q b vw c vr s s (some ga) (some gb)) HN.out ?_
                clear HN
                intro Z hn
                have HN := hid hn
                clear hn
                refine wpAnyH_ready (rs := [3]) (by kernel_rfl) (by simp) (AllReadyH.cons rfl (fun KK hK => ?_) AllReadyH.nil)
                go_simp
                go_at_call 14
                refine (HTK.out _ HN.out.ask.pair.mem).mono ?_
                rintro e w7 ⟨rfl, hm, hw⟩
                have HN1 := hid (HN.out.one hm hw)
                clear hm hw HN
                have HN := HN1
                clear HN1
                go_wp2_with fail
                refine hK.out _ _ HN.out.ask.reads (fun hHeld => ?_)
                clear hK KK hHeld
                (try simp only [Act.put, List.getElem_toArray, List.getElem_cons_zero, List.getElem_cons_succ, List.setIfInBounds_toArray, List.set_cons_zero, List.set_cons_succ])
                refine rename_to (MidAt w x0 x1 x2 ⟨ht', hl', hs', hr', hx'⟩ q b vw c vr (tkTake mp4 s ⟨ht', hl', hs', hr', hx'⟩).2 s (some ga) (some gb)) HN.out ?_
                clear HN
                intro Z hn
                have HN := hid hn
                clear hn
                refine wpAnyH_ready (rs := [5]) (by kernel_rfl) (by simp) (AllReadyH.cons rfl (fun KK hK => ?_) AllReadyH.nil)
                go_simp
                go_at_call 10
                refine (pRef_any mp4 _).mono ?_
                rintro e w7 ⟨rfl, hb⟩
                have HN1 := hid (HN.out.later hb)
                clear hb HN
                have HN := HN1
                clear HN1
                go_wp2_with fail
                refine hK.out _ _ HN.out.ask.reads (fun hHeld => ?_)
                clear hK KK hHeld
                (try simp only [Act.put, List.getElem_toArray, List.getElem_cons_zero, List.getElem_cons_succ, List.setIfInBounds_toArray, List.set_cons_zero, List.set_cons_succ])
                refine rename_to (MidAt w x0 x1 x2 ⟨ht', hl', hs', hr', hx'⟩ q b vw c vr (tkTake mp4 s ⟨ht', hl', hs', hr', hx'⟩).2 s (some ga) (some gb)) HN.out ?_
                clear HN
                intro Z hn
                have HN := hid hn
                clear hn
                refine wpAnyH_ready (rs := [8]) (by kernel_rfl) (by simp) (AllReadyH.cons rfl (fun KK hK => ?_) AllReadyH.nil)
                go_simp
                go_at_call 15
                refine (HRT.out _ HN.out.ask.pair.ref).mono ?_
                rintro e w7 ⟨rfl, hm, hw⟩
                have HN1 := hid (HN.out.two hm hw)
                clear hm hw HN
                have HN := HN1
                clear HN1
                go_wp2_with fail
                refine hK.out _ _ HN.out.ask.reads (fun hHeld => ?_)
                clear hK KK hHeld
                (try simp only [Act.put, List.getElem_toArray, List.getElem_cons_zero, List.getElem_cons_succ, List.setIfInBounds_toArray, List.set_cons_zero, List.set_cons_succ])
                refine rename_to (MidAt w x0 x1 x2 ⟨ht', hl', hs', hr', hx'⟩ q b vw c vr (tkTake mp4 s ⟨ht', hl', hs', hr', hx'⟩).2 (tkTake mp4 s ⟨ht', hl', hs', hr', hx'⟩).2 (some ga) (some gb)) HN.out ?_
                clear HN
                intro Z hn
                have HN := hid hn
                clear hn
                exact tail ga gb Z HN.out
            · have hnew := MidAt.newB HN.out
              clear HN
              go_simp
              generalize Z.heap.size = gb at hnew ⊢
              have HN := hid hnew
              clear hnew
              refine hK.out _ _ HN.out.ask.reads (fun hHeld => ?_)
              clear hK KK hHeld
              (try simp only [Act.put, List.getElem_toArray, List.getElem_cons_zero, List.getElem_cons_succ, List.setIfInBounds_toArray, List.set_cons_zero, List.set_cons_succ])
              refine rename_to (MidAt w x0 x1 x2 ⟨ht', hl', hs', hr', hx'⟩ q b vw c vr s s none (some gb)) HN.out ?_
              clear HN
              intro Z hn
              have HN := hid hn
              clear hn
              refine wpAnyH_ready (rs := [3, 9]) (by kernel_rfl) (by simp) (AllReadyH.cons rfl (fun KK hK => ?_) (AllReadyH.cons rfl (fun KK hK => ?_) AllReadyH.nil))
              · go_simp
                go_at_call 14
                refine (HTK.out _ HN.out.ask.pair.mem).mono ?_
                rintro e w7 ⟨rfl, hm, hw⟩
                have HN1 := hid (HN.out.one hm hw)
                clear hm hw HN
                have HN := HN1
                clear HN1
                go_wp2_with fail
                refine hK.out _ _ HN.out.ask.reads (fun hHeld => ?_)
                clear hK KK hHeld
                (try simp only [Act.put, List.getElem_toArray, List.getElem_cons_zero, List.getElem_cons_succ, List.setIfInBounds_toArray, List.set_cons_zero, List.set_cons_succ])
                refine rename_to (MidAt w x0 x1 x2 ⟨ht', hl', hs', hr', hx'⟩ q b vw c vr (tkTake mp4 s ⟨ht', hl', hs', hr', hx'⟩).2 s none (some gb)) HN.out ?_
                clear HN
                intro Z hn
                have HN := hid hn
                clear hn
                refine wpAnyH_ready (rs := [5, 9]) (by kernel_rfl) (by simp) (AllReadyH.cons rfl (fun KK hK => ?_) (AllReadyH.cons rfl (fun KK hK => ?_) AllReadyH.nil))
                · go_simp
                  go_at_call 10
                  refine (pRef_any mp4 _).mono ?_
                  rintro e w7 ⟨rfl, hb⟩
                  have HN1 := hid (HN.out.later hb)
                  clear hb HN
                  have HN := HN1
                  clear HN1
                  go_wp2_with fail
                  refine hK.out _ _ HN.out.ask.reads (fun hHeld => ?_)
                  clear hK KK hHeld
                  (try simp only [Act.put, List.getElem_toArray, List.getElem_cons_zero, List.getElem_cons_succ, List.setIfInBounds_toArray, List.set_cons_zero, List.set_cons_succ])
                  refine rename_to (MidAt w x0 x1 x2 ⟨ht', hl', hs', hr', hx'⟩ q b vw c vr (tkTake mp4 s ⟨ht', hl', hs', hr', hx'⟩).2 s none (some gb)) HN.out ?_
                  clear HN
                  intro Z hn
                  have HN := hid hn
                  clear hn
                  refine wpAnyH_ready (rs := [8, 9]) (by kernel_rfl) (by simp) (AllReadyH.cons rfl (fun KK hK => ?_) (AllReadyH.cons rfl (fun KK hK => ?_) AllReadyH.nil))
                  · go_simp
                    go_at_call 15
                    refine (HRT.out _ HN.out.ask.pair.ref).mono ?_
                    rintro e w7 ⟨rfl, hm, hw⟩
                    have HN1 := hid (HN.out.two hm hw)
                    clear hm hw HN
                    have HN := HN1
                    clear HN1
                    go_wp2_with fail
                    refine hK.out _ _ HN.out.ask.reads (fun hHeld => ?_)
                    clear hK KK hHeld
                    (try simp only [Act.put, List.getElem_toArray, List.getElem_cons_zero, List.getElem_cons_succ, List.setIfInBounds_toArray, List.set_cons_zero, List.set_cons_succ])
                    refine rename_to (MidAt w x0 x1 x2 ⟨ht', hl', hs', hr', hx'⟩ q b vw c vr (tkTake mp4 s ⟨ht', hl', hs', hr', hx'⟩).2 (tkTake mp4 s ⟨ht', hl', hs', hr', hx'⟩).2 none (some gb)) HN.out ?_
                    clear HN
                    intro Z hn
                    have HN := hid hn
                    clear hn
                    refine wpAnyH_ready (rs := [9]) (by kernel_rfl) (by simp) (AllReadyH.cons rfl (fun KK hK => ?_) AllReadyH.nil)
                    have hnew := MidAt.newA HN.out
                    clear HN
                    go_simp
                    generalize Z.heap.size = ga at hnew ⊢
                    have HN := hid hnew
                    clear hnew
                    refine hK.out _ _ HN.out.ask.reads (fun hHeld => ?_)
                    clear hK KK hHeld
                    (try simp only [Act.put, List.getElem_toArray, List.getElem_cons_zero, List.getElem_cons_succ, List.setIfInBounds_toArray, List.set_cons_zero, List.set_cons_succ])
                    refine rename_to (MidAt w x0 x1 x2 ⟨ht', hl', hs', hr', hx'⟩ q b vw c vr (tkTake mp4 s ⟨ht', hl', hs', hr', hx'⟩).2 (tkTake mp4 s ⟨ht', hl', hs', hr', hx'⟩).2 (some ga) (some gb)) HN.out ?_
                    clear HN
                    intro Z hn
                    have HN := hid hn
                    clear hn
                    exact tail ga gb Z HN.out
                  · have hnew := MidAt.newA HN.out
                    clear HN
                    go_simp
                    generalize Z.heap.size = ga at hnew ⊢
                    have HN := hid hnew
                    clear hnew
                    refine hK.out _ _ HN.out.ask.reads (fun hHeld => ?_)
                    clear hK KK hHeld
                    (try simp only [Act.put, List.getElem_toArray, List.getElem_cons_zero, List.getElem_cons_succ, List.setIfInBounds_toArray, List.set_cons_zero, List.set_cons_succ])
                    refine rename_to (MidAt w x0 x1 x2 ⟨ht', hl', hs', hr', hx'⟩ q b vw c vr (tkTake mp4 s ⟨ht', hl', hs', hr', hx'⟩).2 s (some ga) (some gb)) HN.out ?_
                    clear HN
                    intro Z hn
                    have HN := hid hn
                    clear hn
                    refine wpAnyH_ready (rs := [8]) (by kernel_rfl) (by simp) (AllReadyH.cons rfl (fun KK hK => ?_) AllReadyH.nil)
                    go_simp
                    go_at_call 15
                    refine (HRT.out _ HN.out.ask.pair.ref).mono ?_
                    rintro e w7 ⟨rfl, hm, hw⟩
                    have HN1 := hid (HN.out.two hm hw)
                    clear hm hw HN
                    have HN := HN1
                    clear HN1
                    go_wp2_with fail
                    refine hK.out _ _ HN.out.ask.reads (fun hHeld => ?_)
                    clear hK KK hHeld
                    (try simp only [Act.put, List.getElem_toArray, List.getElem_cons_zero, List.getElem_cons_succ, List.setIfInBounds_toArray, List.set_cons_zero, List.set_cons_succ])
                    refine rename_to (MidAt w x0 x1 x2 ⟨ht', hl', hs', hr', hx'⟩ q b vw c vr (tkTake mp4 s ⟨ht', hl', hs', hr', hx'⟩).2 (tkTake mp4 s ⟨ht', hl', hs', hr', hx'⟩).2 (some ga) (some gb)) HN.out ?_
                    clear HN
                    intro Z hn
                    have HN := hid hn
                    clear hn
                    exact tail ga gb Z HN.out
                · have hnew := MidAt.newA HN.out
                  clear HN
                  go_simp
                  generalize Z.heap.size = ga at hnew ⊢
                  have HN := hid hnew
                  clear hnew
                  refine hK.out _ _ HN.out.ask.reads (fun hHeld => ?_)
                  clear hK KK hHeld
                  (try simp only [Act.put, List.getElem_toArray, List.getElem_cons_zero, List.getElem_cons_succ, List.setIfInBounds_toArray, List.set_cons_zero, List.set_cons_succ])
                  refine rename_to (MidAt w x0 x1 x2 ⟨ht', hl', hs', hr', hx'⟩ q b vw c vr (tkTake mp4 s ⟨ht', hl', hs', hr', hx'⟩).2 s (some ga) (some gb)) HN.out ?_
                  clear HN
                  intro Z hn
                  have HN := hid hn
                  clear hn
                  refine wpAnyH_ready (rs := [5]) (by kernel_rfl) (by simp) (AllReadyH.cons rfl (fun KK hK => ?_) AllReadyH.nil)
                  go_simp
                  go_at_call 10
                  refine (pRef_any mp4 _).mono ?_
                  rintro e w7 ⟨rfl, hb⟩
                  have HN1 := hid (HN.out.later hb)
                  clear hb HN
                  have HN := HN1
                  clear HN1
                  go_wp2_with fail
                  refine hK.out _ _ HN.out.ask.reads (fun hHeld => ?_)
                  clear hK KK hHeld
                  (try simp only [Act.put, List.getElem_toArray, List.getElem_cons_zero, List.getElem_cons_succ, List.setIfInBounds_toArray, List.set_cons_zero, List.set_cons_succ])
                  refine rename_to (MidAt w x0 x1 x2 ⟨ht', hl', hs', hr', hx'⟩ q b vw c vr (tkTake mp4 s ⟨ht', hl', hs', hr', hx'⟩).2 s (some ga) (some gb)) HN.out ?_
                  clear HN
                  intro Z hn
                  have HN := hid hn
                  clear hn
                  refine wpAnyH_ready (rs := [8]) (by kernel_rfl) (by simp) (AllReadyH.cons rfl (fun KK hK => ?_) AllReadyH.nil)
                  go_simp
                  go_at_call 15
                  refine (HRT.out _ HN.out.ask.pair.ref).mono ?_
                  rintro e w7 ⟨rfl, hm, hw⟩
                  have HN1 := hid (HN.out.two hm hw)
                  clear hm hw HN
                  have HN := HN1
                  clear HN1
                  go_wp2_with fail
                  refine hK.out _ _ HN.out.ask.reads (fun hHeld => ?_)
                  clear hK KK hHeld
                  (try simp only [Act.put, List.getElem_toArray, List.getElem_cons_zero, List.getElem_cons_succ, List.setIfInBounds_toArray, List.set_cons_zero, List.set_cons_succ])
                  refine rename_to (MidAt w x0 x1 x2 ⟨ht', hl', hs', hr', hx'⟩ q b vw c vr (tkTake mp4 s ⟨ht', hl', hs', hr', hx'⟩).2 (tkTake mp4 s ⟨ht', hl', hs', hr', hx'⟩).2 (some ga) (some gb)) HN.out ?_
                  clear HN
                  intro Z hn
                  have HN := hid hn
                  clear hn
                  exact tail ga gb Z HN.out
              · have hnew := MidAt.newA HN.out
                clear HN
                go_simp
                generalize Z.heap.size = ga at hnew ⊢
                have HN := hid hnew
                clear hnew
                refine hK.out _ _ HN.out.ask.reads (fun hHeld => ?_)
                clear hK KK hHeld
                (try simp only [Act.put, List.getElem_toArray, List.getElem_cons_zero, List.getElem_cons_succ, List.setIfInBounds_toArray, List.set_cons_zero, List.set_cons_succ])
                refine rename_to (MidAt w x0 x1 x2 ⟨ht', hl', hs', hr', hx'⟩ q b vw c vr s s (some ga) (some gb)) HN.out ?_
                clear HN
                intro Z hn
                have HN := hid hn
                clear hn
                refine wpAnyH_ready (rs := [3]) (by kernel_rfl) (by simp) (AllReadyH.cons rfl (fun KK hK => ?_) AllReadyH.nil)
                go_simp
                go_at_call 14
                refine (HTK.out _ HN.out.ask.pair.mem).mono ?_
                rintro e w7 ⟨rfl, hm, hw⟩
                have HN1 := hid (HN.out.one hm hw)
                clear hm hw HN
                have HN := HN1
                clear HN1
                go_wp2_with fail
                refine hK.out _ _ HN.out.ask.reads (fun hHeld => ?_)
                clear hK KK hHeld
                (try simp only [Act.put, List.getElem_toArray, List.getElem_cons_zero, List.getElem_cons_succ, List.setIfInBounds_toArray, List.set_cons_zero, List.set_cons_succ])
                refine rename_to (MidAt w x0 x1 x2 ⟨ht', hl', hs', hr', hx'⟩ q b vw c vr (tkTake mp4 s ⟨ht', hl', hs', hr', hx'⟩).2 s (some ga) (some gb)) HN.out ?_
                clear HN
                intro Z hn
                have HN := hid hn
                clear hn
                refine wpAnyH_ready (rs := [5]) (by kernel_rfl) (by simp) (AllReadyH.cons rfl (fun KK hK => ?_) AllReadyH.nil)
                go_simp
                go_at_call 10
                refine (pRef_any mp4 _).mono ?_
                rintro e w7 ⟨rfl, hb⟩
                have HN1 := hid (HN.out.later hb)
                clear hb HN
                have HN := HN1
                clear HN1
                go_wp2_with fail
                refine hK.out _ _ HN.out.ask.reads (fun hHeld => ?_)
                clear hK KK hHeld
                (try simp only [Act.put, List.getElem_toArray, List.getElem_cons_zero, List.getElem_cons_succ, List.setIfInBounds_toArray, List.set_cons_zero, List.set_cons_succ])
                refine rename_to (MidAt w x0 x1 x2 ⟨ht', hl', hs', hr', hx'⟩ q b vw c vr (tkTake mp4 s ⟨ht', hl', hs', hr', hx'⟩).2 s (some ga) (some gb)) HN.out ?_
                clear HN
                intro Z hn
                have HN := hid hn
                clear hn
                refine wpAnyH_ready (rs := [8]) (by kernel_rfl) (by simp) (AllReadyH.cons rfl (fun KK hK => ?_) AllReadyH.nil)
                go_simp
                go_at_call 15
                refine (HRT.out _ HN.out.ask.pair.ref).mono ?_
                rintro e w7 ⟨rfl, hm, hw⟩
                have HN1 := hid (HN.out.two hm hw)
                clear hm hw HN
                have HN := HN1
                clear HN1
                go_wp2_with fail
                refine hK.out _ _ HN.out.ask.reads (fun hHeld => ?_)
                clear hK KK hHeld
                (try simp only [Act.put, List.getElem_toArray, List.getElem_cons_zero, List.getElem_cons_succ, List.setIfInBounds_toArray, List.set_cons_zero, List.set_cons_succ])
                refine rename_to (MidAt w x0 x1 x2 ⟨ht', hl', hs', hr', hx'⟩ q b vw c vr (tkTake mp4 s ⟨ht', hl', hs', hr', hx'⟩).2 (tkTake mp4 s ⟨ht', hl', hs', hr', hx'⟩).2 (some ga) (some gb)) HN.out ?_
                clear HN
                intro Z hn
                have HN := hid hn
                clear hn
                exact tail ga gb Z HN.out
          case h2 =>
            intro ga gb Z hn
            have HN := hid hn
            clear hn
            have HE := hid HN.out.fin
            refine wpAnyH_ready (rs := [11]) (by kernel_rfl) (by simp) (AllReadyH.cons rfl (fun KK hK => ?_) AllReadyH.nil)
            obtain ⟨e0, e1, e2, e3, e4, ef⟩ := HE.out.oa.facts
            go_simp
            have HE1 := hid (HE.out.setA (tkTake mp4 s ⟨ht', hl', hs', hr', hx'⟩).1)
            clear HE e0 e1 e2 e3 e4 ef
            have HE := HE1
            clear HE1
            refine hK.out _ _ HE.out.ask.reads (fun hHeld => ?_)
            clear hK KK hHeld
            (try simp only [Act.put, List.getElem_toArray, List.getElem_cons_zero, List.getElem_cons_succ, List.setIfInBounds_toArray, List.set_cons_zero, List.set_cons_succ])
            refine rename_to (EndAt w x0 x1 x2 ⟨ht', hl', hs', hr', hx'⟩ q b vw c vr (tkTake mp4 s ⟨ht', hl', hs', hr', hx'⟩).2 (tkTake mp4 s ⟨ht', hl', hs', hr', hx'⟩).2 ga gb (tkTake mp4 s ⟨ht', hl', hs', hr', hx'⟩).1 h0) HE.out ?_
            clear HE HN
            intro Z hn
            have HE := hid hn
            clear hn
            refine wpAnyH_ready (rs := [12]) (by kernel_rfl) (by simp) (AllReadyH.cons rfl (fun KK hK => ?_) AllReadyH.nil)
            obtain ⟨e0, e1, e2, e3, e4, ef⟩ := HE.out.ob.facts
            go_simp
            have HE1 := hid (HE.out.setB (tkTake mp4 s ⟨ht', hl', hs', hr', hx'⟩).1)
            clear HE e0 e1 e2 e3 e4 ef
            have HE := HE1
            clear HE1
            refine hK.out _ _ HE.out.ask.reads (fun hHeld => ?_)
            clear hK KK hHeld
            (try simp only [Act.put, List.getElem_toArray, List.getElem_cons_zero, List.getElem_cons_succ, List.setIfInBounds_toArray, List.set_cons_zero, List.set_cons_succ])
            refine wpAnyH_done (by kernel_rfl) ?_ _
            refine NoPanic.normal ?_
            go_wp2_with fail
            go_meet
            case rel => exact ⟨_, _, rfl, rfl, HE.out⟩
        case rest =>
          clear HTK HRT HK
          obtain ⟨qa, qb, rfl, rfl, hE⟩ := hcut
          have HE := hid hE
          clear hE
          go_upto_if 88 with fail
          go_cut [10, 11, 14] (fun s10 s11 s14 W => ∃ b vw c vr n s g, s10 = .pointer (some ⟨b, 0, none⟩) ∧ s11 = .pointer (some ⟨c, 0, none⟩) ∧ s14 = .int .i64 n ∧ s.zs.length = 48 ∧ (s.steps = n ∨ s.steps = wrap64 (n + 1)) ∧ 0 ≤ n ∧ n ≤ 3 ∧ EndAt w x0 x1 x2 ⟨ht', hl', hs', hr', hx'⟩ q b vw c vr s s qa qb g g W)
          case first =>
            cases drop
            · go_wp2_with fail
              go_meet
              case rel => exact ⟨b, vw, c, vr, _, _, _, rfl, rfl, rfl, by rw [take_len]; exact HS.out.1, take_steps _ _ _, HS.out.2.1, HS.out.2.2, HE.out⟩
            · have hlen : (tkTake mp4 s ⟨ht', hl', hs', hr', hx'⟩).2.zs.length = 48 := by rw [take_len]; exact HS.out.1
              generalize (tkTake mp4 s ⟨ht', hl', hs', hr', hx'⟩).2 = s1 at HE hlen
              generalize (tkTake mp4 s ⟨ht', hl', hs', hr', hx'⟩).1 = g1 at HE
              obtain ⟨ar, capr, hvr, hmx, hrow, _⟩ := HE.out.ask.pair.ref.shape
              have hc0 := HE.out.ask.pair.ref.facts.1.1
              rw [hvr] at hc0
              rw [hlen] at hrow hc0 hmx
              have hclt := HE.out.ask.pair.ref.lt
              have HCAP := hid (show ar = none → capr = 0 from fun h => by
                have hz := hrow
                unfold IntRow at hz
                rcases hz.2 with ⟨_, h0⟩ | ⟨y, h0, _⟩
                · cases h0
                · rw [h] at h0; cases h0)
              have HROW := hid hrow
              have HLEN := hid hlen
              have HALL := hid (fun (x : World) (hb : Below wc.heap.size wc x) => (show Calls Try.prog 17 #[.pointer (some ⟨b, 0, none⟩)] x (fun e w' => ∃ a' c', e = .returned (.slice a' 48 c') ∧ w'.ownsRow x.heap.size 2 1 (.slice a' 48 c') 48 (s1.zs.map (Value.int .i64)) ∧ Below x.heap.size x w') from by
                have h := All_any x _ b vw s1 (HE.out.later hb).ask.pair.mem (by rw [HLEN.out]; decide)
                rwa [HLEN.out] at h))
              clear hrow hlen hmx hvr
              go_upto_region 17 with fail
              go_region_held3 (fun w' => w'.cell? ⟨c, 0, none⟩ = some (.slice ar 48 capr)) (first | exact (HB9.out.cell (p := ⟨c, 0, none⟩) hclt).trans hc0 | exact (HB8.out.cell (p := ⟨c, 0, none⟩) hclt).trans hc0 | exact (HB7.out.cell (p := ⟨c, 0, none⟩) hclt).trans hc0 | exact ((bdrew (bid wc)).cell (p := ⟨c, 0, none⟩) hclt).trans hc0)
                (first
                  | (go_at_call 17; (with_reducible refine (HALL.out _ (bdrew (bid wc))).mono ?_); rintro e w7 ⟨a', c', rfl, hown, hb⟩; have HO := hid hown; have HB7 := hid (bthen (bdrew (bid wc)) hb); clear hown hb)
                  | (go_at_call 16; (with_reducible refine (New_any _ _ _ _ _ (IntRow.of_own HO.out) (by decide)).mono ?_); rintro e w8 ⟨b', vw', rfl, hm, hb⟩; have HM8 := hid hm; have HB78 := hid hb; have HB8 := hid (bthen HB7.out hb); clear hm hb)
                  | (go_at_call 18; (with_reducible refine (RefNew_any _ _ _ s1.zs _ (HROW.out.below HB8.out) (by decide) HCAP.out).mono ?_); rintro e w9 ⟨c', vr', rfl, hm, hb⟩; have HM9 := hid hm; have HB89 := hid hb; have HB9 := hid (bthen HB8.out hb); clear hm hb))
              have HE9 := hid (HE.out.anew ((pair_new HM8.out HM9.out HB89.out HB78.out.size).mono HB7.out.size) HB9.out)
              go_upto_region 21 with fail
              have HLN := hid (show (MS.new s1.zs).zs.length = 48 from HLEN.out)
              clear HB9 HB89 HM9 HB8 HB78 HM8 HB7 HO HALL HROW HCAP HE hc0 hclt
              have hne1 : Nonempty (Sat (fun W => ∃ s t, AskAt w x0 x1 x2 ⟨ht', hl', hs', hr', hx'⟩ q b' vw' c' vr' s t W)) := ⟨⟨_, _, _, HE9.out.ask⟩⟩
              have hne2 : Nonempty (Sat (fun _ => True)) := ⟨⟨w, trivial⟩⟩
              have hcells := fun (x : Sat (fun W => ∃ s t, AskAt w x0 x1 x2 ⟨ht', hl', hs', hr', hx'⟩ q b' vw' c' vr' s t W)) => AskAt.satReads x
              have y0 := fun x => (hcells x).1
              have y1 := fun x => (hcells x).2.1
              have y2 := fun x => (hcells x).2.2.1
              have y3 := fun x => (hcells x).2.2.2.1
              have y4 := fun x => (hcells x).2.2.2.2.1
              have y5 := fun x => (hcells x).2.2.2.2.2.1
              have y6 := fun x => (hcells x).2.2.2.2.2.2.1
              have y7 := fun x => (hcells x).2.2.2.2.2.2.2.1
              have y8 := fun x => (hcells x).2.2.2.2.2.2.2.2.1
              have y9 := fun x => (hcells x).2.2.2.2.2.2.2.2.2
              clear hcells
              refine wp_region_staged (EndD w x0 x1 x2 ⟨ht', hl', hs', hr', hx'⟩ q b' vw' c' vr' (MS.new s1.zs) (tkDrop mp4 (MS.new s1.zs) ⟨ht', hl', hs', hr', hx'⟩).2 qa qb g1 (tkDrop mp4 (MS.new s1.zs) ⟨ht', hl', hs', hr', hx'⟩).1) (by kernel_rfl) (by kernel_rfl) (fun L hL => EndD.start hL HE9.out) ?_
              refine wpS_plain (fun W => ∃ s t, AskAt w x0 x1 x2 ⟨ht', hl', hs', hr', hx'⟩ q b' vw' c' vr' s t W) (fun L W hL hcl hd => EndD.some hd) (fun _ _ h => h) rfl rfl ?_
              intro KK hKK
              go_big_quiet_op
              go_big_quiet_on
              refine wpS_plain (fun _ => True) (fun _ _ _ _ _ => trivial) (fun _ _ h => h) rfl rfl ?_
              intro KK hKK
              go_big_quiet_op
              go_big_quiet_on
              refine wpS_plain (fun W => ∃ s t, AskAt w x0 x1 x2 ⟨ht', hl', hs', hr', hx'⟩ q b' vw' c' vr' s t W) (fun L W hL hcl hd => EndD.some hd) (fun _ _ h => h) rfl rfl ?_
              intro KK hKK
              go_big_quiet_op
              go_big_quiet_on
              refine wpS_call 19 #[(PM.v mp4), .pointer (some ⟨b', 0, none⟩), (HD.mk ht' hl' hs' hr' hx').v] (tkDrop mp4 (MS.new s1.zs) ⟨ht', hl', hs', hr', hx'⟩).1.v rfl (fun _ => by go_simp) ?_ ?_
              · intro L W hL hcl hd
                have hd1 := EndD.at3 hd hL
                refine (Drop_any mp4 ⟨ht', hl', hs', hr', hx'⟩ _ _ _ _ _ hd1.ask.pair.mem (by rw [mp4_size, HLN.out]; decide) mp4_ok).mono ?_
                rintro e w'' ⟨rfl, hm, hw⟩
                exact ⟨rfl, hd1.one hm hw⟩
              (try simp only [Act.put, List.getElem_toArray, List.getElem_cons_zero, List.getElem_cons_succ, List.setIfInBounds_toArray, List.set_cons_zero, List.set_cons_succ])
              refine wpS_plain (fun W => ∃ s t, AskAt w x0 x1 x2 ⟨ht', hl', hs', hr', hx'⟩ q b' vw' c' vr' s t W) (fun L W hL hcl hd => EndD.some hd) (fun _ _ h => h) rfl rfl ?_
              intro KK hKK
              go_big_quiet_op
              go_big_quiet_on
              refine wpS_call 10 #[(PM.v mp4)] (PM.v mp4) rfl (fun _ => by go_simp) ?_ ?_
              · intro L W hL hcl hd
                refine (pRef_any mp4 W).mono ?_
                rintro e w'' ⟨rfl, hb⟩
                exact ⟨rfl, EndAt.later hd hb⟩
              (try simp only [Act.put, List.getElem_toArray, List.getElem_cons_zero, List.getElem_cons_succ, List.setIfInBounds_toArray, List.set_cons_zero, List.set_cons_succ])
              refine wpS_plain (fun _ => True) (fun _ _ _ _ _ => trivial) (fun _ _ h => h) rfl rfl ?_
              intro KK hKK
              go_big_quiet_op
              go_big_quiet_on
              refine wpS_plain (fun W => ∃ s t, AskAt w x0 x1 x2 ⟨ht', hl', hs', hr', hx'⟩ q b' vw' c' vr' s t W) (fun L W hL hcl hd => EndD.some hd) (fun _ _ h => h) rfl rfl ?_
              intro KK hKK
              go_big_quiet_op
              go_big_quiet_on
              refine wpS_call 20 #[(PM.v mp4), .pointer (some ⟨c', 0, none⟩), (HD.mk ht' hl' hs' hr' hx').v] (tkDrop mp4 (MS.new s1.zs) ⟨ht', hl', hs', hr', hx'⟩).1.v rfl (fun _ => by go_simp) ?_ ?_
              · intro L W hL hcl hd
                have hd1 := EndD.at8 hd hL
                refine (rDrop_any mp4 ⟨ht', hl', hs', hr', hx'⟩ _ _ _ _ _ hd1.ask.pair.ref).mono ?_
                rintro e w'' ⟨rfl, hm, hw⟩
                exact ⟨rfl, hd1.two hm hw⟩
              (try simp only [Act.put, List.getElem_toArray, List.getElem_cons_zero, List.getElem_cons_succ, List.setIfInBounds_toArray, List.set_cons_zero, List.set_cons_succ])
              refine wpS_store rfl ?_ ?_
              · intro L W hL hcl hd
                have hd1 := EndD.at9 hd hL
                obtain ⟨e0, e1, e2, e3, e4, ef⟩ := hd1.oa.facts
                exact ⟨_, by go_simp, hd1.setA (tkDrop mp4 (MS.new s1.zs) ⟨ht', hl', hs', hr', hx'⟩).1⟩
              (try simp only [Act.put, List.getElem_toArray, List.getElem_cons_zero, List.getElem_cons_succ, List.setIfInBounds_toArray, List.set_cons_zero, List.set_cons_succ])
              refine wpS_store rfl ?_ ?_
              · intro L W hL hcl hd
                have hd1 := EndD.at10 hd hL
                obtain ⟨e0, e1, e2, e3, e4, ef⟩ := hd1.ob.facts
                exact ⟨_, by go_simp, hd1.setB (tkDrop mp4 (MS.new s1.zs) ⟨ht', hl', hs', hr', hx'⟩).1⟩
              (try simp only [Act.put, List.getElem_toArray, List.getElem_cons_zero, List.getElem_cons_succ, List.setIfInBounds_toArray, List.set_cons_zero, List.set_cons_succ])
              intro L W hall hd
              have HF := hid (EndD.end_ hall hd)
              go_wp2_with fail
              go_meet
              case rel => exact ⟨b', vw', c', vr', 0, _, _, rfl, rfl, rfl, by rw [drop_len]; exact HLN.out, drop_steps mp4 (MS.new s1.zs) ⟨ht', hl', hs', hr', hx'⟩, by decide, by decide, HF.out⟩
          case rest =>
            clear HE HS
            obtain ⟨b2, vw2, c2, vr2, n, s2, g2, rfl, rfl, rfl, hlen, hst, hn0, hn3, hE⟩ := hcut
            obtain ⟨d, hd, hd1, hd2⟩ := diff_one hst hn0 hn3
            have HE := hid hE
            have HSM := hid (fun (x : Later wc) => Same_yes x.v _ b2 vw2 s2 _ c2 vr2 s2 (HE.out.later x.below).ask.pair.mem (HE.out.later x.below).ask.pair.ref rfl (by rw [hlen]; decide))
            have HST := hid (fun (x : Later wc) => Steps_any x.v _ b2 vw2 s2 (HE.out.later x.below).ask.pair.mem)
            have HID := hid (fun (x : Later wc) => Idle_any mp4 hl' x.v _ b2 vw2 s2 (HE.out.later x.below).ask.pair.mem (by rw [mp4_size, hlen]; decide))
            have HRI := hid (fun (x : Later wc) => rIdle_any mp4 hl' x.v _ c2 vr2 s2 (HE.out.later x.below).ask.pair.ref)
            have HTN := hid (fun (x : World) => Take_nil mp4 ⟨ht', hl', hs', hr', hx'⟩ x mp4_ok)
            obtain ⟨m0, m1, m2, m3, m4, _⟩ := HE.out.ask.map.facts
            obtain ⟨d0, d1, d2, d3, d4, df⟩ := HE.out.ask.box.facts
            have hz1 := HE.out.ask.map.lt
            have hz2 := HE.out.ask.box.lt
            have hz3 := HE.out.oa.lt
            have hz4 := HE.out.ob.lt
            have heq := eq_hand
            have hgd := guard_hand
            obtain ⟨gt, gl, gs, gr, gx⟩ := g2
            obtain ⟨e0, e1, e2, e3, e4, ef⟩ := HE.out.oa.facts
            obtain ⟨f0, f1, f2, f3, f4, ff⟩ := HE.out.ob.facts
            have hsm1 := sameH_refl ⟨gt, gl, gs, gr, gx⟩
            have hsm2 := sameH_refl ⟨ht', hl', hs', hr', hx'⟩
            generalize s2.steps = st at *
            generalize tkIdle mp4 s2 hl' = ti at *
            clear hE hst hn0 hn3 hlen
            go_upto_region 22 with fail
            rcases hd with rfl | rfl
            all_goals
              refine wp_region_later (by kernel_rfl) (by kernel_rfl) ?_
              repeat (go_big_quiet_step (first | (go_at_call 21; with_reducible exact later_call (told8_any _)) | (go_at_call 22; with_reducible exact later_call (HSM.out _)) | (go_at_call 13; with_reducible exact later_same (HST.out _)) | (go_at_call 23; with_reducible exact later_call (HID.out _)) | (go_at_call 10; with_reducible exact later_call (pRef_any mp4 _)) | (go_at_call 24; with_reducible exact later_call (HRI.out _)) | (go_at_call 14; with_reducible exact later_call (HTN.out _))))
              refine wpQuiet_nil ?_
              rintro _ ⟨x, rfl⟩
              go_wp2
              go_ret
              exact ⟨rfl, bthen HE.out.ask.below x.below⟩

end Go.Proofs.Ytpphllijbbcdcaa
