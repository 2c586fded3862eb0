/-
  Package check: whose a word is.
-/
import Derived.Test.YtblalejegjieaaaGreatDoorKCfg
namespace Go.Proofs.YtblalejegjieaaaGreatDoor
open Go.RowKit
set_option linter.unusedVariables false

theorem u64_sub_in {d f : Int} (h1 : -9223372036854775808 ≤ f) (h2 : d ≤ 9223372036854775807) (h : f ≤ d) : IntKind.u64.wrap (IntKind.u64.wrap d - IntKind.u64.wrap f) = d - f := by
  unfold IntKind.wrap
  simp [IntKind.bits, IntKind.signed]
  omega
theorem u64_in {d : Int} (h1 : 0 ≤ d) (h2 : d ≤ 9223372036854775807) : IntKind.u64.wrap d = d := by
  unfold IntKind.wrap
  simp [IntKind.bits, IntKind.signed]
  omega

set_option maxRecDepth 100000 in
set_option maxHeartbeats 2000000 in
theorem Region_any (c : Cfg) (s : CV) (d : Int) (w : World) (hc : CfgIn w c s) (d0 : -9223372036854775808 ≤ d) (d1 : d ≤ 9223372036854775807) :
    Calls Tryz.prog 37 #[c.v s, .int .i64 d] w fun e w' => e = .returned (.int .i64 (regionF c.locks d)) ∧ Below w.heap.size w w' := by
  obtain ⟨eng, clk, str, rds, wrs, rty, fuel, most, ls, cs, ps⟩ := c
  obtain ⟨ai, ni, ki, al, nl, kl, ac, nc, kc, ap, np, kp⟩ := s
  have hr := hc.locks
  have hf := hc.fl
  dsimp only at hr hf
  have HR := hid hr
  clear hc hr
  show Calls _ _ #[.agg #[.int .i64 eng, .int .i64 clk, .int .i64 str, .int .i64 rds, .int .i64 wrs, .int .i64 rty, .int .i64 fuel, .int .i64 most, .slice ai ni ki, .slice al nl kl, .slice ac nc kc, .slice ap np kp], .int .i64 d] _ _
  go_enter Tryz.func37, Tryz.ntmps37
  go_wp2
  generalize hW : w.alloc _ = W
  have HB0 := hid (show Below w.heap.size w W by rw [← hW]; exact bnew (bid w) _)
  clear hW
  go_loopw [10] (fun i wr => ∃ k : Nat, k ≤ nl ∧ i = .int .i64 k ∧ regionF ls d = regF (ls.drop k) k d ∧ Below w.heap.size w wr) (fun i _ => nl - (intOf i).toNat)
  case atStart => exact ⟨0, Nat.zero_le _, rfl, rfl, HB0.out⟩
  case round =>
    obtain ⟨k, hk, rfl, hff, hb⟩ := hrel
    have HB := hid hb
    have HFF := hid hff
    clear hff hb
    by_cases hlt : k < nl
    · have hll : k < ls.length := by rw [HR.out.cnt]; exact hlt
      obtain ⟨b, off, rfl, hbl, hcell⟩ := HR.out.at (by omega)
      have hL := (hcell k ls[k] (List.getElem?_eq_getElem hll)).keep (HB.out.block b hbl)
      have hwf := HR.out.wf ls[k] (List.getElem_mem hll)
      have HD := hid (show ls.drop k = ls[k] :: ls.drop (k + 1) from List.drop_eq_getElem_cons hll)
      generalize ls[k] = l at hL hwf HD
      obtain ⟨lk, lf, ll⟩ := l
      obtain ⟨f0, f1, l0, l1⟩ := hwf
      obtain ⟨c0, c1, c2⟩ := hL
      dsimp only at f0 f1 l0 l1 c0 c1 c2
      have i0 : (0 : Int) ≤ (k : Int) := by omega
      have i1 : (k : Int) < ((nl : Nat) : Int) := by omega
      have HX := hid (show regF (ls.drop k) k d = (if hasB ⟨lk, lf, ll⟩ d = true then (k : Int) else regF (ls.drop (k + 1)) (k + 1) d) from by rw [HD.out]; rfl)
      clear hcell
      by_cases h1 : 0 < ll
      · by_cases h2 : lf ≤ d
        · have e1 := u64_sub_in f0 d1 h2
          have e2 := u64_in (d := ll) (by omega) l1
          by_cases h3 : d - lf < ll
          · have HV := hid ((hasB_iff (l := ⟨lk, lf, ll⟩) (d := d)).2 ⟨h1, h2, h3⟩)
            go_wp2
            go_ret
            refine ⟨?_, bnew HB.out _⟩
            rw [HFF.out, HX.out, if_pos HV.out]
            rfl
          · have HV := hid (show ¬ hasB ⟨lk, lf, ll⟩ d = true from fun h => h3 ((hasB_iff (l := ⟨lk, lf, ll⟩) (d := d)).1 h).2.2)
            go_wp2
            exact ⟨⟨k + 1, by omega, by go_num, by rw [HFF.out, HX.out, if_neg HV.out], bnew HB.out _⟩, by simp [intOf]; omega⟩
        · have HV := hid (show ¬ hasB ⟨lk, lf, ll⟩ d = true from fun h => h2 ((hasB_iff (l := ⟨lk, lf, ll⟩) (d := d)).1 h).2.1)
          go_wp2
          exact ⟨⟨k + 1, by omega, by go_num, by rw [HFF.out, HX.out, if_neg HV.out], bnew HB.out _⟩, by simp [intOf]; omega⟩
      · have HV := hid (show ¬ hasB ⟨lk, lf, ll⟩ d = true from fun h => h1 ((hasB_iff (l := ⟨lk, lf, ll⟩) (d := d)).1 h).1)
        go_wp2
        exact ⟨⟨k + 1, by omega, by go_num, by rw [HFF.out, HX.out, if_neg HV.out], bnew HB.out _⟩, by simp [intOf]; omega⟩
    · have e : k = nl := by omega
      subst e
      clear hlt
      go_wp2
      go_ret
      refine ⟨?_, HB.out⟩
      rw [HFF.out, List.drop_eq_nil_of_le (by rw [HR.out.cnt]; exact Nat.le_refl _)]
      rfl

end Go.Proofs.YtblalejegjieaaaGreatDoor
