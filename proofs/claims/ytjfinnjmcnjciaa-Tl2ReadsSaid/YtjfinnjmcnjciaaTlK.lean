/-
  How three attempts begin, and what there is when all have ended.
-/
import Derived.Test.YtjfinnjmcnjciaaTlH
namespace Go.Proofs.Ytjfinnjmcnjciaa
open Go.RowKit

def tens : Nat → Int := fun _ => 10
theorem Sim.start {ck : Int} {s : MS} {us : Nat → RU} (hz : s.zs.length = 34) (hd : ∀ d : Nat, d < 4 → s.vAt (26 + 2 * (d : Int)) = 10) (h0 : ∀ q, q < 26 → s.vAt q = 0) (hu : ∀ t, t < 3 → (us t).fin ≠ 0 ∧ SumOk (us t)) :
    Sim ck 0 s us ⟨0, fun _ => 0, tens, fun _ => idleT⟩ (fun _ => tens) tens := by
  refine ⟨AInv.start tens (by unfold Good4 tens; decide), ⟨hz, h0 0 (by decide), fun d hd' => hd d hd', (fun k hk _ => by rw [h0 _ (by omega)]; rfl), (fun k hk t ht => by cases ht), (fun t k ht => by cases ht)⟩, fun t ht => .over (hu t ht).1 (hu t ht).2, fun t _ => rfl, Int.le_refl _, Int.le_refl _, fun _ => Int.le_refl _, fun t ht _ => h0 _ (by omega)⟩
section
variable {ck N : Int} {s : MS} {us : Nat → RU} {A : AS} {H : Int → Nat → Int} {Hc : Nat → Int}
/-- What was read stood there together, wherever the attempt is. -/
theorem Sim.sums (h : Sim ck N s us A H Hc) {t : Nat} (ht : t < 3) : SumOk (us t) := by
  have hr := h.run t ht
  have hl : (A.T t).live = true → (A.T t).R = (us t).read → RdOk (us t).plan (us t).read → SumOk (us t) := h.sum
  generalize A.T t = a at hr hl
  cases hr with
  | over hf so => exact so
  | btw tb busy alive sure phased job ws old i => exact hl rfl rfl tb.rd
  | rd1 d pv tb => exact hl rfl rfl tb.rd
  | rd2 d pv tb => exact hl rfl rfl tb.rd
  | lk W cb => exact cb.w.sum
  | bp W q cb => exact cb.w.sum
  | ckd W q cb => exact cb.w.sum
  | wr W q S cb => exact cb.w.sum
  | fr W q S cb => exact cb.w.sum
  | en tb busy job st i so => exact so
  | un tb busy job phased rows le xi old so => exact so
/-- All have ended: all there is is forty, and nobody is in a phase. -/
theorem Sim.ends (h : Sim ck N s us A H Hc) (hf : ∀ t, t < 3 → (us t).fin ≠ 0) : (s.vAt 26 + s.vAt 28 + s.vAt 30 + s.vAt 32) % 18446744073709551616 = 40 ∧ ∀ t : Nat, t < 3 → s.vAt (11 + 2 * (t : Int)) = 0 := by
  have hid : ∀ t, (A.T t).dec = false := fun t => by
    by_cases ht : t < 3
    · have hr := h.run t ht
      have hft := hf t ht
      generalize A.T t = a at hr
      cases hr with
      | over hf so => rfl
      | btw tb => exact absurd tb.fin hft
      | rd1 d pv tb => exact absurd tb.fin hft
      | rd2 d pv tb => exact absurd tb.fin hft
      | lk W cb => exact absurd cb.tb.fin hft
      | bp W q cb => exact absurd cb.tb.fin hft
      | ckd W q cb => exact absurd cb.tb.fin hft
      | wr W q S cb => exact absurd cb.tb.fin hft
      | fr W q S cb => exact absurd cb.tb.fin hft
      | en tb => exact absurd tb.fin hft
      | un tb => exact absurd tb.fin hft
    · rw [h.rest t (by omega)]; rfl
  refine ⟨?_, fun t ht => h.ph t ht (.inl (hf t ht))⟩
  have key : ∀ d : Nat, d < 4 → s.vAt (26 + 2 * (d : Int)) = Hc d := fun d hd => by
    rw [h.wds.dat d hd]
    exact (h.inv.free d fun t ht => by rw [hid t] at ht; cases ht).1
  have hg := h.inv.good A.c
  unfold Good4 at hg
  simp only [h.inv.hc A.c _ (Int.le_refl _)] at hg
  have k0 := key 0 (by decide)
  have k1 := key 1 (by decide)
  have k2 := key 2 (by decide)
  have k3 := key 3 (by decide)
  simp at k0 k1 k2 k3
  rw [k0, k1, k2, k3]
  exact hg
end

end Go.Proofs.Ytjfinnjmcnjciaa
