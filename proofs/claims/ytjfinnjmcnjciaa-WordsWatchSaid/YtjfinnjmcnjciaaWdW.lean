/-
  WordsWatch: its walk.
-/
import Derived.Test.YtjfinnjmcnjciaaWdK
import Derived.Test.YtjfinnjmcnjciaaNr
import Derived.Test.YtjfinnjmcnjciaaArr
import Derived.Deep.RegionHeld3
namespace Go.Proofs.Ytjfinnjmcnjciaa
open Go.RowKit
attribute [local go_sem] Later.cell Later.frozen

theorem wd_u64low (n : Int) : 0 ≤ IntKind.u64.wrap n := by
  simp only [IntKind.wrap, IntKind.signed, Bool.false_and]
  exact Int.emod_nonneg _ (by decide)
theorem wd_four (a : Int) : 0 ≤ wrap64 ((IntKind.u64.wrap a).tmod 4) ∧ wrap64 ((IntKind.u64.wrap a).tmod 4) < 4 := by
  have h := wd_u64low a
  rw [Int.tmod_eq_emod_of_nonneg h]
  unfold wrap64
  omega
theorem wd_cells1 {w : World} {a : Option Addr} {x : Int} (h : IntRow w a 1 [x]) : ∃ b off, a = some ⟨b, off, none⟩ ∧ b < w.heap.size ∧ w.cell? ⟨b, off, none⟩ = some (.int .i64 x) := by
  obtain ⟨b, off, e, hb, hc⟩ := h.at (by decide)
  exact ⟨b, off, e, hb, hc 0 (by decide)⟩
theorem wd_cells2 {w : World} {a : Option Addr} {x y : Int} (h : IntRow w a 2 [x, y]) : ∃ b off, a = some ⟨b, off, none⟩ ∧ b < w.heap.size ∧ w.cell? ⟨b, off, none⟩ = some (.int .i64 x) ∧ w.cell? ⟨b, off + 1, none⟩ = some (.int .i64 y) := by
  obtain ⟨b, off, e, hb, hc⟩ := h.at (by decide)
  exact ⟨b, off, e, hb, hc 0 (by decide), hc 1 (by decide)⟩

set_option maxHeartbeats 4000000 in
theorem wwatch_any (k0 k1 k2 k3 k4 lk : Int) (w : World) :
    Calls Try.prog 10 #[.agg #[.int .i64 k0, .int .i64 k1, .int .i64 k2, .int .i64 k3, .int .i64 k4], .int .i64 lk] w fun e w' => e = .returned (.bool true) ∧ Below w.heap.size w w' := by
  have HN := hid (fun W => Near_any k0 k1 k2 k3 k4 W)
  have HOK := hid (near_ok k0 k1 k2 k3 k4)
  have HT := hid (fun W => told17_any W)
  have HF := hid (wd_four lk)
  generalize near k0 k1 k2 k3 k4 = m at *
  go_enter Try.func10, Try.ntmps10
  go_upto_region 1 with fail
  have HB0 := hid (bnew (bid w) (.cells #[.int .i64 k0, .int .i64 k1, .int .i64 k2, .int .i64 k3, .int .i64 k4] 66))
  obtain ⟨s, l, t, c, d⟩ := m
  go_upto_region 2 with (go_at_call 35; go_must ((with_reducible refine (HN.out _).mono ?_); rintro e w1 ⟨rfl, hb⟩; have HB1 := hid (bthen HB0.out hb); clear hb))
  refine wp_rename (fun W => MapAt 31 W w1.heap.size ⟨s, l, t, c, d⟩ ∧ Below w.heap.size w W) ⟨MapAt.new 31 w1 ⟨s, l, t, c, d⟩, bnew HB1.out _⟩ ?_
  generalize w1.heap.size = q
  clear HB1 HB0 HN
  rintro wr ⟨hm, hb⟩
  have HM := hid hm
  have HB := hid hb
  clear hm hb
  obtain ⟨x0, x1, x2, x3, x4, xl⟩ := HM.out.facts
  go_upto_region 3 with fail
  generalize wrap64 ((IntKind.u64.wrap lk).tmod 4) = i at *
  have HW1 := hid (fun W => Watched_any ⟨s, l, t, c, d⟩ i true false W)
  have HW2 := hid (fun W => Watched_any ⟨s, l, t, c, d⟩ i true true W)
  have HW3 := hid (fun W => Watched_any ⟨s, l, t, c, d⟩ i false false W)
  have HKM := hid (fun (W : World) (hW : Below wr.heap.size wr W) => (show W.cell? ⟨q, 0, none⟩ = some (.int .i64 s) ∧ W.cell? ⟨q, 1, none⟩ = some (.int .i64 l) ∧ W.cell? ⟨q, 2, none⟩ = some (.int .i64 t) ∧ W.cell? ⟨q, 3, none⟩ = some (.int .i64 c) ∧ W.cell? ⟨q, 4, none⟩ = some (.int .i64 d) from by
    obtain ⟨h0, h1, h2, h3, h4, _⟩ := (HM.out.below hW).facts
    exact ⟨h0, h1, h2, h3, h4⟩))
  go_region_held3 (fun W => W.cell? ⟨q, 0, none⟩ = some (.int .i64 s) ∧ W.cell? ⟨q, 1, none⟩ = some (.int .i64 l) ∧ W.cell? ⟨q, 2, none⟩ = some (.int .i64 t) ∧ W.cell? ⟨q, 3, none⟩ = some (.int .i64 c) ∧ W.cell? ⟨q, 4, none⟩ = some (.int .i64 d)) (first | exact HKM.out _ (bid wr) | exact HKM.out _ (bdrew (bid wr)) | exact HKM.out _ HC3.out | exact HKM.out _ HC2.out | exact HKM.out _ HC1.out) ((go_at_call 37; first | ((with_reducible refine (HW1.out _).mono ?_); rintro e w1 ⟨p1, c1, rfl, hr, hb⟩; have HC1 := hid (bthen (bdrew (bid wr)) hb); have HR1 := hid hr; clear hb hr) | ((with_reducible refine (HW2.out _).mono ?_); rintro e w2 ⟨p2, c2, rfl, hr, hb⟩; have HC2 := hid (bthen HC1.out hb); have HR1 := hid (HR1.out.below hb); have HR2 := hid hr; clear hb hr) | ((with_reducible refine (HW3.out _).mono ?_); rintro e w3 ⟨p3, c3, rfl, hr, hb⟩; have HC3 := hid (bthen HC2.out hb); have HR1 := hid (HR1.out.below hb); have HR2 := hid (HR2.out.below hb); have HR3 := hid hr; clear hb hr)))
  clear HW1 HW2 HW3 HKM x0 x1 x2 x3 x4
  have HB3 := hid (bthen HB.out HC3.out)
  have HM3 := hid (HM.out.below HC3.out)
  clear HB HM HC1 HC2 HC3
  have hp0 := HF.out.1
  have hp1 := HF.out.2
  clear HF
  by_cases hl : i < l
  · have HA := hid (show 0 ≤ PM.at_ ⟨s, l, t, c, d⟩ 3 i 4 from by
      rw [PM.at_in HOK.out (k := 3) (i := i) (p := 4) hp0 hl (by decide) (by decide)]
      have := HOK.out.s1
      show 0 ≤ 2 + s + i * 6 + 4
      have : 1 ≤ s := this
      omega)
    have HM1 := hid (fun W => Mark_any ⟨s, l, t, c, d⟩ i false false W)
    have HM2 := hid (fun W => Mark_any ⟨s, l, t, c, d⟩ i true false W)
    generalize PM.at_ ⟨s, l, t, c, d⟩ 3 i 4 = a at *
    have na : ¬ a < 0 := by have := HA.out; omega
    have e1 : watL a true false = [a, a + 1] := by unfold watL; rw [if_neg na]; rfl
    have e2 : watL a true true = [a] := by unfold watL; rw [if_neg na]; rfl
    have e3 : watL a false false = [a] := by unfold watL; rw [if_neg na]; rfl
    unfold MarkRet at HM1 HM2
    rw [show markP a false = a by unfold markP; rw [if_neg na]; rfl, show markN a false false = 1 by unfold markN; rw [if_neg na]; rfl] at HM1
    rw [show markP a true = a + 1 by unfold markP; rw [if_neg na]; rfl, show markN a true false = 65 by unfold markN; rw [if_neg na]; rfl] at HM2
    rw [e1] at HR1
    rw [e2] at HR2
    rw [e3] at HR3
    rw [e1, e2, e3]
    simp only [List.length_cons, List.length_nil, Nat.zero_add, Nat.reduceAdd] at HR1 HR2 HR3 ⊢
    clear e1 e2 e3 HA na HOK
    obtain ⟨m0, m1, m2, m3, m4, ml⟩ := HM3.out.facts
    go_upto_region 8 with fail
    clear hp0 hp1 hl
    go_upto_region 9 with (go_at_call 39; go_must ((with_reducible refine (HM1.out _).mono ?_); rintro e w4 ⟨rfl, hb⟩; have HC4 := hid hb; clear hb))
    have HM4 := hid (HM3.out.below HC4.out)
    clear m0 m1 m2 m3 m4 ml
    obtain ⟨m0, m1, m2, m3, m4, ml⟩ := HM4.out.facts
    go_upto_region 10 with (go_at_call 39; go_must ((with_reducible refine (HM2.out _).mono ?_); rintro e w5 ⟨rfl, hb⟩; have HC5 := hid (bthen HC4.out hb); clear hb))
    clear m0 m1 m2 m3 m4 ml HM1 HM2 HM3 HM4 HC4
    obtain ⟨b1, o1, rfl, l1, z1, z2⟩ := wd_cells2 (HR1.out.below HC5.out)
    obtain ⟨b2, o2, rfl, l2, z3⟩ := wd_cells1 (HR2.out.below HC5.out)
    obtain ⟨b3, o3, rfl, l3, z4⟩ := wd_cells1 (HR3.out.below HC5.out)
    clear HR1 HR2 HR3
    have hne : (a == a + 1) = false := by rw [beq_eq_false_iff_ne]; omega
    have hneb : (a != a + 1) = true := by simp only [bne, hne]; rfl
    refine wp_region_later (by kernel_rfl) (by kernel_rfl) ?_
    repeat (go_big_quiet_step ((go_at_call 41; with_reducible exact later_call (HT.out _))))
    refine wpQuiet_nil ?_
    rintro _ ⟨x, rfl⟩
    go_wp2_with fail
    go_ret
    exact ⟨rfl, bthen (bthen HB3.out HC5.out) x.below⟩
  · have HA := hid (show PM.at_ ⟨s, l, t, c, d⟩ 3 i 4 = -1 from PM.at_out (.inr (.inr (.inl (by show l ≤ i; omega)))))
    rw [HA.out] at HR1 HR2 HR3 ⊢
    rw [show watL (-1) true false = [] from rfl, show watL (-1) true true = [] from rfl, show watL (-1) false false = [] from rfl]
    simp only [List.length_nil]
    clear HR1 HR2 HR3 HA HOK
    obtain ⟨m0, m1, m2, m3, m4, ml⟩ := HM3.out.facts
    go_upto_region 5 with fail
    go_wp2_with (go_at_call 41; go_must ((with_reducible refine (HT.out _).mono ?_); rintro e w4 ⟨rfl, hb⟩; have HC4 := hid hb; clear hb))
    go_ret
    exact ⟨rfl, bthen HB3.out HC4.out⟩

end Go.Proofs.Ytjfinnjmcnjciaa
