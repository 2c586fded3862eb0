/-
  Hand of layer 9: some hand.
-/
import Derived.Test.YtmcmajndcbobpaaMcU
namespace Go.Proofs.Ytmcmajndcbobpaa
open Go.RowKit
attribute [local go_sem] Later.cell Later.frozen

set_option maxHeartbeats 2000000 in
theorem Hand9_any (h : HD) (w : World) :
    Calls Try.prog 9 #[h.v] w fun e w' => (∃ g : HD, e = .returned g.v) ∧ Below w.heap.size w w' := by
  have HB0 := hid (HandAt.new w h)
  have HB1 := hid (bnew (bnew (bid w) (.cells h.cells 24)) (.cells h0.cells 24))
  have HB2 := hid (show HandAt ((w.alloc (.cells h.cells 24)).alloc (.cells h0.cells 24)) (w.heap.size + 1) h0 from by have := HandAt.new (w.alloc (.cells h.cells 24)) h0; rwa [size_alloc1] at this)
  obtain ⟨ht, hl, hs, hr, hx⟩ := h
  show Calls _ _ #[.agg #[.int .i64 ht, .int .i64 hl, .int .i64 hs, .bool hr, .int .i64 hx]] _ _
  go_enter Try.func9, Try.ntmps9
  go_upto_region 1 with fail
  refine wp_rename (fun W => HandAt W w.heap.size ⟨ht, hl, hs, hr, hx⟩ ∧ HandAt W (w.heap.size + 1) h0 ∧ Below w.heap.size w W) ⟨HB0.out.below (bnew (bid _) _), HB2.out, HB1.out⟩ ?_
  rintro W ⟨k1, k2, k3⟩
  have K1 := hid k1
  have K2 := hid k2
  have K3 := hid k3
  obtain ⟨d0, d1, d2, d3, d4, df⟩ := k1.facts
  obtain ⟨o0, o1, o2, o3, o4, of⟩ := k2.facts
  clear k1 k2 k3 HB0 HB1 HB2
  generalize hq : w.heap.size = q at *
  go_upto_region 2 with fail
  generalize wrap64 ((IntKind.u64.wrap ht).tmod 4) = a0
  generalize wrap64 ((IntKind.u64.wrap hl).tmod 2) = a1
  generalize wrap64 ((IntKind.u64.wrap hs).tmod 16) = a2
  have hws : ∀ v0 v1 v2 : Value, Wrote (fun j => j = q) W (((W.setCell ⟨q, 0, none⟩ v0).setCell ⟨q, 1, none⟩ v1).setCell ⟨q, 2, none⟩ v2) := fun v0 v1 v2 =>
    (((Wrote.refl (fun j => j = q) W).setCell (p := ⟨q, 0, none⟩) (fun _ => rfl) v0).setCell (p := ⟨q, 1, none⟩) (fun _ => rfl) v1).setCell (p := ⟨q, 2, none⟩) (fun _ => rfl) v2
  refine wp_rename (fun W => HandAt W q ⟨a0, a1, a2, hr, hx⟩ ∧ HandAt W (q + 1) h0 ∧ Below q w W) ⟨blk_setCell (blk_setCell (blk_setCell K1.out 0 _) 1 _) 2 _, K2.out.kept (hws _ _ _) (by omega), K3.out.trans ((hws _ _ _).below (by have := K1.out.lt; omega) (fun k hk e => by omega))⟩ ?_
  clear K1 K2 K3 d0 d1 d2 d3 d4 df o0 o1 o2 o3 o4 of hws
  rintro W ⟨k1, k2, k3⟩
  have K1 := hid k1
  have K2 := hid k2
  have K3 := hid k3
  obtain ⟨d0, d1, d2, d3, d4, df⟩ := k1.facts
  clear k1 k2 k3
  go_upto_region 3 with fail
  generalize wrap64 ((IntKind.u64.wrap hx).tmod 10) = a4
  have hws : ∀ v0 : Value, Wrote (fun j => j = q) W (W.setCell ⟨q, 4, none⟩ v0) := fun v0 => (Wrote.refl (fun j => j = q) W).setCell (p := ⟨q, 4, none⟩) (fun _ => rfl) v0
  refine wp_rename (fun W => HandAt W q ⟨a0, a1, a2, hr, a4⟩ ∧ HandAt W (q + 1) h0 ∧ Below q w W) ⟨K1.out.setX _, K2.out.kept (hws _) (by omega), K3.out.trans ((hws _).below (by have := K1.out.lt; omega) (fun k hk e => by omega))⟩ ?_
  clear K1 K2 K3 d0 d1 d2 d3 d4 df hws
  rintro W ⟨k1, k2, k3⟩
  have K3 := hid k3
  obtain ⟨d0, d1, d2, d3, d4, df⟩ := k1.facts
  obtain ⟨o0, o1, o2, o3, o4, of⟩ := k2.facts
  have hlt := k2.lt
  clear k1 k2 k3
  go_wp2_with fail
  refine bodyPost_ret (v := (HD.mk a0 a1 a2 hr a4).v) (by simp [results, Try.results9, go_sem, o0, o1, o2, o3, o4, of]) rfl ⟨⟨_, rfl⟩, ?_⟩
  rw [hq]
  exact K3.out.trans (((Wrote.refl (fun j => j = q + 1) W).set5 (q := q + 1) (fun _ => rfl) _ _ _ _ _).below (by omega) (fun k hk e => by omega))

end Go.Proofs.Ytmcmajndcbobpaa
