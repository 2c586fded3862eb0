/-
  The document's example of an attempt. The document's example of an attempt is told.
-/
import Derived.Test.YtjfinnjmcnjciaaNrF
import Derived.Test.YtjfinnjmcnjciaaBoth
namespace Go.Proofs.Ytjfinnjmcnjciaa
open Go.RowKit
attribute [local go_sem] Later.cell Later.frozen

set_option maxHeartbeats 1000000 in
theorem Map15_any (w : World) : Calls Try.prog 15 #[] w fun e w' => e = .returned (.agg #[.int .i64 3, .int .i64 1, .int .i64 3, .int .i64 0, .int .i64 4]) ∧ Below w.heap.size w w' := by
  go_enter Try.func15, Try.ntmps15
  go_wp2
  exact bodyPost_ret (v := .agg #[.int .i64 3, .int .i64 1, .int .i64 3, .int .i64 0, .int .i64 4]) (by simp [results, Try.results15, go_sem]) rfl ⟨rfl, bnew (bid w) _⟩
theorem TpNewRet.from {w w1 w' : World} {ρ : Nat → Nat} {r : Nat} {x : PT} {e : Ending} (h : TpNewRet w1 ρ r x e w') (hb : Below w.heap.size w w1) : TpNewRet w ρ r x e w' := by
  obtain ⟨b, ρ', l, h1, h2, h3, h4, h5⟩ := h
  exact ⟨b, ρ', l, h1, Nat.le_trans hb.size h2, fun k hk => h3 k (Nat.lt_of_lt_of_le hk hb.size), h4, bthen hb h5⟩
set_option maxHeartbeats 1000000 in
theorem New15_any (th : Nat) (ck : Int) (w : World) (ρ : Nat → Nat) (r : Nat) (hth : th < 3) :
    Calls Try.prog 17 #[.int .i64 (th : Int), .int .i64 ck] w (TpNewRet w ρ r (PT.new mT (th : Int) 32 32 1000)) := by
  have HM := hid (Map15_any w)
  have HN := hid (fun W => (show Calls Try.prog 61 #[.agg #[.int .i64 3, .int .i64 1, .int .i64 3, .int .i64 0, .int .i64 4], .int .i64 (th : Int), .int .i64 32, .int .i64 32, .int .i64 1000] W (TpNewRet W ρ r (PT.new mT (th : Int) 32 32 1000)) from tpNew_any mT (th : Int) 32 32 1000 W ρ r (by rw [mT_phase hth]; omega)))
  go_enter Try.func17, Try.ntmps17
  go_wp2_with (first | (go_at_call 15; go_must ((with_reducible refine HM.out.mono ?_); rintro e w1 ⟨rfl, hb⟩; have HB := hid hb; clear hb)) | (go_at_call 61; go_must ((with_reducible refine (HN.out _).mono ?_); rintro e w2 hr; obtain ⟨b, ρ', l, rfl, hrest⟩ := hr; have HR := hid hrest; clear hrest)))
  go_ret
  exact TpNewRet.from ⟨b, ρ', l, rfl, HR.out⟩ HB.out

/-! ### The example's attempt, step by step -/
def S0 : MS := MS.new (zrow 34)
def T0 : PT := PT.new mT 1 32 32 1000
def T1 : PT := (pBegin T0).2
def T2 : PT := (pStep S0 T1).2.1
def S2 : MS := (pStep S0 T1).2.2
def T3 : PT := pWatch T2 9 0
def T4 : PT := (pRead T3 26).2
def T5 : PT := (pStep S2 T4).2.1
def S5 : MS := (pStep S2 T4).2.2
def T6 : PT := (pStep S5 T5).2.1
def S6 : MS := (pStep S5 T5).2.2
def T7 : PT := (pStep S6 T6).2.1
def S7 : MS := (pStep S6 T6).2.2
theorem t_begin : (pBegin T0).1 = 0 := by kernel_rfl
theorem t_step : (pStep S0 T1).1 = 1 := by kernel_rfl
theorem t_read : (pRead T3 26).1 = 0 := by kernel_rfl
theorem t_s5 : (pStep S2 T4).1 = 0 := by kernel_rfl
theorem t_s6 : (pStep S5 T5).1 = 0 := by kernel_rfl
theorem t_s7 : (pStep S6 T6).1 = 1 := by kernel_rfl
theorem t_steps : S7.steps = 4 := by kernel_rfl
theorem t_val : T7.val = 0 := by kernel_rfl
theorem t_commit : (pCommit T7).1 = 0 := by kernel_rfl
def isPartB (q : Int) : Bool := decide (0 ≤ q) && decide (q ≤ 16)
theorem isParts_of {ps : List Int} (h : ps.all isPartB = true) : ∀ q ∈ ps, isPart q := by
  intro q hq
  have := List.all_eq_true.1 h q hq
  unfold isPartB at this
  simp at this
  unfold isPart
  omega
theorem accOk_of {s : MS} {x : PT} (q : Int) (qs : List Int) (hp : x.parts = q :: qs) (hz : x.m = mT) (hs : s.zs.length = 34) (hd : x.dn = 0) (ha : (q :: qs).all isPartB = true) (hl : leftP x q = true) (hf : (q :: qs).length ≤ 700) : AccOk s x := by
  refine ⟨by rw [hz, hs, mT_size]; decide, by rw [hd]; omega, by rw [hp]; exact isParts_of ha, fun p ps h => ?_, by rw [hp]; exact hf⟩
  rw [hp] at h; cases h; exact hl
theorem a1 : AccOk S0 T1 := accOk_of 0 [13] (by kernel_rfl) (by kernel_rfl) (by kernel_rfl) (by kernel_rfl) (by kernel_rfl) (by kernel_rfl) (by decide)
theorem a4 : AccOk S2 T4 := accOk_of 4 [5, 3, 12] (by kernel_rfl) (by kernel_rfl) (by kernel_rfl) (by kernel_rfl) (by kernel_rfl) (by kernel_rfl) (by decide)
theorem a5 : AccOk S5 T5 := accOk_of 5 [3, 12] (by kernel_rfl) (by kernel_rfl) (by kernel_rfl) (by kernel_rfl) (by kernel_rfl) (by kernel_rfl) (by decide)
theorem a6 : AccOk S6 T6 := accOk_of 3 [12] (by kernel_rfl) (by kernel_rfl) (by kernel_rfl) (by kernel_rfl) (by kernel_rfl) (by kernel_rfl) (by decide)

/-- Where the example stands. -/
structure ToS (w : World) (g1 xb mb : Nat) (vw : Value) (x : PT) (s : MS) (W : World) : Prop where
  ex : ∃ ρ l, PXM W ρ 0 xb x l w.heap.size mb vw s ∧ (∀ k, k < w.heap.size → ρ k = 99) ∧ ρ g1 = 0
  map : W.heap[g1]? = some (.cells #[.int .i64 3, .int .i64 1, .int .i64 3, .int .i64 0, .int .i64 4] 31 (0, 0))
  nm : ¬ MemS mb vw g1
  below : Below w.heap.size w W
variable {w W W2 : World} {g1 xb mb : Nat} {vw : Value} {x : PT} {s : MS}
theorem ToS.later (h : ToS w g1 xb mb vw x s W) (hb : Below W.heap.size W W2) : ToS w g1 xb mb vw x s W2 := by
  obtain ⟨ρ, l, hx, ho, hg⟩ := h.ex
  exact ⟨⟨ρ, l, hx.below hb, ho, hg⟩, (hb.block _ (lt_of_block h.map)).trans h.map, h.nm, bthen' h.below hb⟩
where
  bthen' {w W w1 : World} (h : Below w.heap.size w W) (k : Below W.heap.size W w1) : Below w.heap.size w w1 := bthen h k
/-- Its own blocks turned. -/
theorem ToS.turn {ρ ρ' : Nat → Nat} {l' : PL} {y : PT} {t : MS} (h : ToS w g1 xb mb vw x s W) (ho : ∀ k, k < w.heap.size → ρ k = 99) (hg1 : ρ g1 = 0) (hm0 : ∀ k, MemS mb vw k → ρ k = 0) (hx : PXM W2 ρ' 0 xb y l' w.heap.size mb vw t) (hg : Gr ρ ρ' W) (hw : Wrote (OwnM ρ 0 mb vw) W W2) : ToS w g1 xb mb vw y t W2 := by
  refine ⟨⟨ρ', l', hx, fun k hk => (hg k (Nat.lt_of_lt_of_le hk h.below.size)).trans (ho k hk), (hg _ (lt_of_block h.map)).trans hg1⟩, (hw.block _ (lt_of_block h.map) fun hs => ?_).trans h.map, h.nm, h.below.trans (hw.below h.below.size fun k hk hs => ?_)⟩
  · rcases hs with hs | hs
    · have := hs.1; omega
    · exact h.nm hs
  · have := ho k hk
    rcases hs with hs | hs
    · have := hs.2; omega
    · have := hm0 k hs; omega

/-- A call that turns the attempt alone. -/
theorem ToS.call {v : Int × PT} (h : ToS w g1 xb mb vw x s W) (f : FuncId) (args : Array Value) (hc : ∀ ρ l, PX W ρ 0 xb x l → Calls Try.prog f args W (TpRet W ρ 0 xb v)) :
    Calls Try.prog f args W fun e W2 => e = .returned (.int .i64 v.1) ∧ ToS w g1 xb mb vw v.2 s W2 := by
  obtain ⟨ρ, l, hx, ho, hg⟩ := h.ex
  refine (hc ρ l hx.px).mono ?_
  rintro e W2 ⟨rfl, ρ', l', g, x', k⟩
  exact ⟨rfl, h.turn ho hg hx.m0 (hx.turn x' g k) g (OwnM.own k)⟩
theorem ToS.step (h : ToS w g1 xb mb vw x s W) (ok : AccOk s x) : Calls Try.prog 28 #[.pointer (some ⟨xb, 0, none⟩), .pointer (some ⟨mb, 0, none⟩)] W fun e W2 => e = .returned (.int .i64 (pStep s x).1) ∧ ToS w g1 xb mb vw (pStep s x).2.1 (pStep s x).2.2 W2 := by
  obtain ⟨ρ, l, hx, ho, hg⟩ := h.ex
  refine (tpStep_any hx ok).mono ?_
  rintro e W2 ⟨rfl, ρ', l', g, x', k⟩
  exact ⟨rfl, h.turn ho hg hx.m0 x' g k⟩
theorem ToS.watch (h : ToS w g1 xb mb vw x s W) (a v : Int) (hn : x.wt.length < 100) : Calls Try.prog 33 #[.pointer (some ⟨xb, 0, none⟩), .int .i64 a, .int .i64 v] W fun e W2 => e = .returned (.tuple #[]) ∧ ToS w g1 xb mb vw (pWatch x a v) s W2 := by
  obtain ⟨ρ, l, hx, ho, hg⟩ := h.ex
  refine (tpWatch_any a v hx.px hn).mono ?_
  rintro e W2 ⟨rfl, ρ', l', g, x', k⟩
  exact ⟨rfl, h.turn ho hg hx.m0 (hx.turn x' g k) g (OwnM.own k)⟩
theorem ToS.start {w1 w2 w3 : World} {c : Nat} {vr : Value} {ρ' : Nat → Nat} {l : PL} (hg1 : w.heap.size ≤ g1) (hmap : w1.heap[g1]? = some (.cells #[.int .i64 3, .int .i64 1, .int .i64 3, .int .i64 0, .int .i64 4] 31 (0, 0))) (hb1 : Below w.heap.size w w1)
    (hp : Pair w2 w1.heap.size mb vw c vr S0 S0) (hb2 : Below w1.heap.size w1 w2) (hg : Gr (fun k => if k < w.heap.size then 99 else 0) ρ' w2) (hx : PX w3 ρ' 0 xb x l) (hb3 : Below w2.heap.size w2 w3) : ToS w g1 xb mb vw x S0 w3 := by
  have hlt := lt_of_block hmap
  have hm3 : Mem w3 w1.heap.size mb vw S0 := hp.mem.kept (Wrote.of_below hb3 (fun _ => False)) (fun _ _ h => h)
  have hmlt : ∀ k, MemS mb vw k → k < w2.heap.size ∧ w1.heap.size ≤ k := fun k hk => by
    refine ⟨?_, ?_⟩
    · rcases hk with rfl | hk
      · exact hp.mem.lt
      · exact (hp.mem.row.lt k hk).2
    · refine Nat.le_of_not_lt fun h => hp.mem.old k h hk
  have s1 := hb1.size
  have s2 := hb2.size
  refine ⟨⟨ρ', l, ⟨hx, hm3.mono hb1.size, fun k hk => ?_⟩, fun k hk => ?_, ?_⟩, ((hb3.block _ (by omega)).trans (hb2.block _ hlt)).trans hmap, fun h => by have := (hmlt _ h).2; omega, bthen (bthen hb1 hb2) hb3⟩
  · have := hmlt k hk
    rw [hg k this.1]
    exact if_neg (by omega)
  · rw [hg k (by omega)]
    exact if_pos hk
  · rw [hg g1 (by omega)]
    exact if_neg (by omega)
theorem ToS.cells (h : ToS w g1 xb mb vw x s W) : (W.cell? ⟨g1, 0, none⟩ = some (.int .i64 3) ∧ W.cell? ⟨g1, 1, none⟩ = some (.int .i64 1) ∧ W.cell? ⟨g1, 2, none⟩ = some (.int .i64 3) ∧ W.cell? ⟨g1, 3, none⟩ = some (.int .i64 0) ∧ W.cell? ⟨g1, 4, none⟩ = some (.int .i64 4)) ∧ (∀ i, W.frozen? ⟨g1, i, none⟩ = false) ∧ g1 < W.heap.size :=
  ⟨⟨cell_of_blk h.map 0, cell_of_blk h.map 1, cell_of_blk h.map 2, cell_of_blk h.map 3, cell_of_blk h.map 4⟩, fun i => frozen_of_blk h.map i, lt_of_block h.map⟩

end Go.Proofs.Ytjfinnjmcnjciaa

namespace Go.Proofs.Ytjfinnjmcnjciaa
open Go.RowKit
attribute [local go_sem] Later.cell Later.frozen

set_option maxHeartbeats 4000000 in
theorem told15_any (w : World) : Calls Try.prog 13 #[] w fun e w' => e = .returned (.bool true) ∧ Below w.heap.size w w' := by
  have HM := hid (Map15_any w)
  have HBO := hid (fun W => (show Calls Try.prog 16 #[.agg #[.int .i64 3, .int .i64 1, .int .i64 3, .int .i64 0, .int .i64 4]] W (MadeBoth 34 W) from by have := Both_any mT W mT_ok; rw [mT_size] at this; exact this))
  have HNW := hid (fun W => (show Calls Try.prog 17 #[.int .i64 1, .int .i64 1] W (TpNewRet W (fun k => if k < w.heap.size then 99 else 0) 0 T0) from New15_any 1 1 W (fun k => if k < w.heap.size then 99 else 0) 0 (by decide)))
  have HLK := hid (fun W => (show Calls Try.prog 32 #[.agg #[.int .i64 3, .int .i64 1, .int .i64 3, .int .i64 0, .int .i64 4], .int .i64 0, .int .i64 4] W (fun e w' => e = .returned (.int .i64 9) ∧ Below W.heap.size W w') from by have := Lock_any mT 0 4 W; rw [show mT.at_ 3 0 4 = 9 from by decide] at this; exact this))
  have HDT := hid (fun W => (show Calls Try.prog 20 #[.agg #[.int .i64 3, .int .i64 1, .int .i64 3, .int .i64 0, .int .i64 4], .int .i64 0] W (fun e w' => e = .returned (.int .i64 26) ∧ Below W.heap.size W w') from by have := Data_any mT 0 W; rw [show mT.at_ 8 0 0 = 26 from by decide] at this; exact this))
  go_enter Try.func13, Try.ntmps13
  go_upto_region 2 with (go_at_call 15; go_must ((with_reducible refine HM.out.mono ?_); rintro e w1 ⟨rfl, hb⟩; have HB1 := hid (bnew hb (.cells #[.int .i64 3, .int .i64 1, .int .i64 3, .int .i64 0, .int .i64 4] 31)); have HMP := hid (heap_alloc_new w1 (.cells #[.int .i64 3, .int .i64 1, .int .i64 3, .int .i64 0, .int .i64 4] 31)); have HG1 := hid hb.size; clear hb))
  refine wp_renamed (fun W => W.heap[w1.heap.size]? = some (.cells #[.int .i64 3, .int .i64 1, .int .i64 3, .int .i64 0, .int .i64 4] 31 (0, 0)) ∧ Below w.heap.size w W) ⟨HMP.out, HB1.out⟩ ?_
  generalize w1.heap.size = g1 at *
  clear HMP HB1 HM
  rintro w1 ⟨hmp, hb⟩
  have HMP := hid hmp
  have HB1 := hid hb
  have x0 := cell_of_blk hmp 0
  have x1 := cell_of_blk hmp 1
  have x2 := cell_of_blk hmp 2
  have x3 := cell_of_blk hmp 3
  have x4 := cell_of_blk hmp 4
  have xf0 := frozen_of_blk hmp 0
  have xf1 := frozen_of_blk hmp 1
  have xf2 := frozen_of_blk hmp 2
  have xf3 := frozen_of_blk hmp 3
  have xf4 := frozen_of_blk hmp 4
  simp only [List.getElem?_toArray, List.getElem?_cons_zero, List.getElem?_cons_succ] at x0 x1 x2 x3 x4
  clear hmp hb
  go_upto_region 4 with (first | (go_at_call 16; go_must ((with_reducible refine (HBO.out _).mono ?_); rintro e w2 ⟨mb, vw, c, vr, rfl, hp, hb⟩; have HP := hid hp; have HB2 := hid hb; clear hp hb)) | (go_at_call 17; go_must ((with_reducible refine (HNW.out _).mono ?_); rintro e w3 ⟨xb, ρ', l, rfl, _, hg, hx, hb⟩; have HS := hid (ToS.start (x := T0) HG1.out HMP.out HB1.out HP.out HB2.out hg hx hb); clear hg hx hb)))
  clear HP HB2 HMP HB1 x0 x1 x2 x3 x4 xf0 xf1 xf2 xf3 xf4 HNW HBO
  have HC1 := hid (HS.out.call (v := pBegin T0) 55 #[.pointer (some ⟨xb, 0, none⟩)] fun ρ l hx => tpBegin_any hx)
  rw [t_begin] at HC1
  go_upto_region 7 with (go_at_call 55; go_must ((with_reducible refine HC1.out.mono ?_); rintro e w4 ⟨rfl, hs⟩; have HS1 := hid (show ToS w g1 xb mb vw T1 S0 w4 from hs); clear hs))
  have HC2 := hid (HS1.out.step a1)
  rw [t_step] at HC2
  go_upto_region 8 with (go_at_call 28; go_must ((with_reducible refine HC2.out.mono ?_); rintro e w5 ⟨rfl, hs⟩; have HS2 := hid (show ToS w g1 xb mb vw T2 S2 w5 from hs); clear hs))
  clear HC1 HC2 HS HS1
  obtain ⟨⟨x0, x1, x2, x3, x4⟩, xf, xl⟩ := HS2.out.cells
  have xf0 := xf 0
  have xf1 := xf 1
  have xf2 := xf 2
  have xf3 := xf 3
  have xf4 := xf 4
  clear xf
  go_upto_region 9 with (first | (go_at_call 32; go_must ((with_reducible refine (HLK.out _).mono ?_); rintro e w6 ⟨rfl, hb⟩; have HS3 := hid (HS2.out.later hb); clear hb)) | (go_at_call 33; go_must ((with_reducible refine (HS3.out.watch 9 0 (by decide)).mono ?_); rintro e w7 ⟨rfl, hs⟩; have HS4 := hid (show ToS w g1 xb mb vw T3 S2 w7 from hs); clear hs)))
  clear x0 x1 x2 x3 x4 xf0 xf1 xf2 xf3 xf4 xl HS2 HS3
  obtain ⟨⟨x0, x1, x2, x3, x4⟩, xf, xl⟩ := HS4.out.cells
  have xf0 := xf 0
  have xf1 := xf 1
  have xf2 := xf 2
  have xf3 := xf 3
  have xf4 := xf 4
  clear xf
  have HC3 := hid (fun V (hv : ToS w g1 xb mb vw T3 S2 V) => (by have := hv.call (v := pRead T3 26) 31 #[.pointer (some ⟨xb, 0, none⟩), .int .i64 26] fun ρ l hx => tpRead_any 26 hx (by decide); rw [t_read] at this; exact this : Calls Try.prog 31 #[.pointer (some ⟨xb, 0, none⟩), .int .i64 26] V fun e W2 => e = .returned (.int .i64 0) ∧ ToS w g1 xb mb vw T4 S2 W2))
  go_upto_region 10 with (first | (go_at_call 20; go_must ((with_reducible refine (HDT.out _).mono ?_); rintro e w8 ⟨rfl, hb⟩; have HS5 := hid (HS4.out.later hb); clear hb)) | (go_at_call 31; go_must ((with_reducible refine (HC3.out _ HS5.out).mono ?_); rintro e w9 ⟨rfl, hs⟩; have HS6 := hid hs; clear hs)))
  clear x0 x1 x2 x3 x4 xf0 xf1 xf2 xf3 xf4 xl HS4 HS5 HC3
  have HL := hid (show ∃ j : Nat, j < 3 ∧ ((j = 0 ∧ ToS w g1 xb mb vw T4 S2 w9) ∨ (j = 1 ∧ ToS w g1 xb mb vw T5 S5 w9) ∨ (j = 2 ∧ ToS w g1 xb mb vw T6 S6 w9)) ∧ (.int .i64 (j : Int) : Value) = .int .i64 0 from ⟨0, by decide, .inl ⟨rfl, HS6.out⟩, rfl⟩)
  clear HS6
  go_wp2_with fail
  go_loopw [8] (fun y W => ∃ j : Nat, j < 3 ∧ y = .int .i64 (j : Int) ∧ ((j = 0 ∧ ToS w g1 xb mb vw T4 S2 W) ∨ (j = 1 ∧ ToS w g1 xb mb vw T5 S5 W) ∨ (j = 2 ∧ ToS w g1 xb mb vw T6 S6 W))) (fun y _ => 3 - (intOf y).toNat)
  case atStart =>
    obtain ⟨j, h1, h2, h3⟩ := HL.out
    exact ⟨j, h1, h3.symm, h2⟩
  case round =>
    clear HL
    obtain ⟨j, hj, rfl, hs⟩ := hrel
    rcases hs with ⟨rfl, hs⟩ | ⟨rfl, hs⟩ | ⟨rfl, hs⟩
    · have HC := hid (hs.step a4)
      rw [t_s5] at HC
      clear hs
      go_wp2_with (go_at_call 28; go_must ((with_reducible refine HC.out.mono ?_); rintro e w5 ⟨rfl, hs⟩; have HS := hid (show ToS w g1 xb mb vw T5 S5 w5 from hs); clear hs))
      go_roundw
      case rel => exact ⟨1, by decide, rfl, .inr (.inl ⟨rfl, HS.out⟩)⟩
      case measure => decide
    · have HC := hid (hs.step a5)
      rw [t_s6] at HC
      clear hs
      go_wp2_with (go_at_call 28; go_must ((with_reducible refine HC.out.mono ?_); rintro e w5 ⟨rfl, hs⟩; have HS := hid (show ToS w g1 xb mb vw T6 S6 w5 from hs); clear hs))
      go_roundw
      case rel => exact ⟨2, by decide, rfl, .inr (.inr ⟨rfl, HS.out⟩)⟩
      case measure => decide
    · have HC := hid (hs.step a6)
      rw [t_s7] at HC
      clear hs
      have HST := hid (fun V (hv : ToS w g1 xb mb vw T7 S7 V) => (by obtain ⟨_, _, hx, _, _⟩ := hv.ex; have := Steps_any V _ mb vw S7 hx.mem; rw [t_steps] at this; exact this : Calls Try.prog 51 #[.pointer (some ⟨mb, 0, none⟩)] V fun e w' => e = .returned (.int .i64 4) ∧ V = w'))
      have HVA := hid (fun V (hv : ToS w g1 xb mb vw T7 S7 V) => (by obtain ⟨_, _, hx, _, _⟩ := hv.ex; have := tpValue_any hx.px; rw [t_val] at this; exact this : Calls Try.prog 56 #[.pointer (some ⟨xb, 0, none⟩)] V fun e w' => e = .returned (.int .i64 0) ∧ V = w'))
      have HCM := hid (fun V (hv : ToS w g1 xb mb vw T7 S7 V) => (by have := hv.call (v := pCommit T7) 57 #[.pointer (some ⟨xb, 0, none⟩)] fun ρ l hx => tpCommit_any hx; rw [t_commit] at this; exact this : Calls Try.prog 57 #[.pointer (some ⟨xb, 0, none⟩)] V fun e W2 => e = .returned (.int .i64 0) ∧ ToS w g1 xb mb vw (pCommit T7).2 S7 W2))
      go_wp2_with (first | (go_at_call 28; go_must ((with_reducible refine HC.out.mono ?_); rintro e w5 ⟨rfl, hs⟩; have HS := hid (show ToS w g1 xb mb vw T7 S7 w5 from hs); clear hs)) | (go_at_call 51; go_must ((with_reducible refine (HST.out _ HS.out).mono ?_); rintro e w6 ⟨rfl, rfl⟩)) | (go_at_call 56; go_must ((with_reducible refine (HVA.out _ HS.out).mono ?_); rintro e w7 ⟨rfl, rfl⟩)) | (go_at_call 57; go_must ((with_reducible refine (HCM.out _ HS.out).mono ?_); rintro e w8 ⟨rfl, hs⟩; have HS9 := hid hs; clear hs)))
      go_ret
      exact ⟨rfl, HS9.out.below⟩

end Go.Proofs.Ytjfinnjmcnjciaa
