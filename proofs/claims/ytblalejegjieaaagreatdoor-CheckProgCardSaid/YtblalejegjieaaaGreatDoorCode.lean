/-
  Code: the code at the end of a chain.
-/
import Derived.Test.YtblalejegjieaaaGreatDoorParts
import Derived.Test.YtblalejegjieaaaGreatDoorSents
namespace Go.Proofs.YtblalejegjieaaaGreatDoor
open Go.RowKit

theorem row_cell {w : World} {B g cap : Nat} {E : TypeId} {ks : List (Nat × Addr)} (h : w.ownsRow B E 1 (.slice (some ⟨g, 0, none⟩) ks.length cap) ks.length (ks.map fun x => errV x.1 x.2)) {j : Nat} (hj : j < ks.length) :
    w.cell? ⟨g, j, none⟩ = some (errV (ks.getD j k0).1 (ks.getD j k0).2) := by
  rw [World.ownsRow.cellAt h j (by simpa using hj)]
  simp [hj]

/-- parts, with its cells. -/
theorem parts_cells {w : World} {ks : List (Nat × Addr)} (hc : Chain w ks) :
    Calls Tryz.prog 27 #[errV (ks.getD 0 k0).1 (ks.getD 0 k0).2] w fun e w' => ∃ g cap, e = .returned (.slice (some ⟨g, 0, none⟩) ks.length cap) ∧
      (∀ j, j < ks.length → w'.cell? ⟨g, j, none⟩ = some (errV (ks.getD j k0).1 (ks.getD j k0).2)) ∧ g < w'.heap.size ∧ ks.length ≤ cap ∧ Below w.heap.size w w' := by
  refine (parts_any w ks hc).mono ?_
  rintro e w' ⟨lv, rfl, hr, hb⟩
  have hf := hc.full
  rcases hr.2 with ⟨_, h⟩ | ⟨g, cap, cur, rfl, _, hg, hle, _⟩
  · omega
  · exact ⟨g, cap, rfl, fun j hj => row_cell hr hj, lt_of_block hg, hle, hb⟩

/-- The chain ends with the error of code c. -/
def EndsAt (ks : List (Nat × Addr)) (sb : Nat → Addr) (c : Nat) : Prop := ∀ k, k + 1 = ks.length → ks[k]? = some (149, sb c)

theorem part_is {w : World} {ks : List (Nat × Addr)} {sb : Nat → Addr} {c : Nat} (hc : Chain w ks) (hs : Sents w sb) (he : EndsAt ks sb c) (h1 : 1 ≤ c) (h2 : c ≤ 10) {j d : Nat} (hj : j < ks.length) (d1 : 1 ≤ d) (d2 : d ≤ 10) :
    decide ((ks.getD j k0).1 = 149 ∧ (ks.getD j k0).2 = sb d) = decide (j + 1 = ks.length ∧ d = c) := by
  by_cases hl : j + 1 = ks.length
  · have h := he j hl
    have e : ks.getD j k0 = (149, sb c) := by
      rw [List.getElem?_eq_getElem hj] at h
      simp [List.getD, hj, Option.some.inj h]
    rw [e]
    simp only [hl, true_and]
    exact decide_eq_decide.2 ⟨fun h => (hs.apart d c d1 d2 h1 h2 h.symm), fun h => by rw [h]⟩
  · obtain ⟨b, t, p, h, _⟩ := hc.more j (by omega)
    have e : ks.getD j k0 = (76, ⟨b, 0, none⟩) := by
      rw [List.getElem?_eq_getElem hj] at h
      simp [List.getD, hj, Option.some.inj h]
    rw [e]
    rw [decide_eq_false (fun h => absurd (show (76 : Nat) = 149 from h.1) (by decide)), decide_eq_false (fun h => hl h.1)]

theorem chain_getD {w : World} {ks : List (Nat × Addr)} (hc : Chain w ks) {j : Nat} (hj : j < ks.length) : ErrAt w (ks.getD j k0).1 (ks.getD j k0).2 := by
  have : ks.getD j k0 ∈ ks := by
    simp [List.getD, hj]
  exact hc.at _ this

set_option maxRecDepth 100000 in
set_option maxHeartbeats 4000000 in
theorem Code_chain {w : World} {ks : List (Nat × Addr)} {sb : Nat → Addr} {c : Nat} (hc : Chain w ks) (hs : Sents w sb) (he : EndsAt ks sb c) (h1 : 1 ≤ c) (h2 : c ≤ 10) :
    Calls Tryz.prog 12 #[errV (ks.getD 0 k0).1 (ks.getD 0 k0).2] w fun e w' => e = .returned (.int .i64 (c : Int)) ∧ Below w.heap.size w w' := by
  have HP := hid (parts_cells hc)
  have HC := hid hc
  have HS := hid hs
  have HE := hid he
  have hfew := hc.few
  have hfull := hc.full
  clear hc hs he
  generalize (ks.getD 0 k0).1 = T0 at HP ⊢
  generalize (ks.getD 0 k0).2 = b0 at HP ⊢
  go_enter Tryz.func12, Tryz.ntmps12
  go_wp2_with (go_at_call 27; refine HP.out.mono ?_; rintro e w1 ⟨g, cap, rfl, hcell, hg, hcap, hb1⟩; have HCE := hid hcell; have HB1 := hid hb1; clear hcell hb1)
  go_loopw [4] (fun i wr => ∃ d : Nat, 1 ≤ d ∧ d ≤ c ∧ i = .int .i64 d ∧ Below w1.heap.size w1 wr) (fun i _ => c + 1 - (intOf i).toNat)
  case atStart => exact ⟨1, by omega, h1, rfl, bid w1⟩
  case round =>
    obtain ⟨d, d1, d2, rfl, hb2⟩ := hrel
    have HB2 := hid hb2
    clear hb2
    have hd10 : ((d : Nat) : Int) ≤ 10 := by omega
    go_wp2_with fail
    go_loopw [15] (fun i wr => ∃ j : Nat, j ≤ ks.length ∧ (d = c → j < ks.length) ∧ i = .int .i64 j ∧ Below w1.heap.size w1 wr) (fun i _ => ks.length - (intOf i).toNat)
    case atStart => exact ⟨0, by omega, fun _ => hfull, rfl, HB2.out⟩
    case round =>
      obtain ⟨j, hj, hdj, rfl, hb3⟩ := hrel
      have HB3 := hid hb3
      by_cases hlt : j < ks.length
      · have cj := (hb3.cell (p := ⟨g, j, none⟩) hg).trans (HCE.out j hlt)
        have HIS := hid (fun (W : World) (hW : Below w.heap.size w W) => Is_lone (w := W) ((chain_getD HC.out hlt).kept (Wrote.of_below hW (fun _ => False)) fun h => h) ((HS.out.below hW).err d d1 (by omega)))
        rw [part_is HC.out HS.out HE.out h1 h2 hlt d1 (by omega)] at HIS
        have HN := hid (fun (W : World) (hW : Below w.heap.size w W) => New_any (HS.out.below hW) d d1 (by omega))
        have HBW := hid (HB1.out.trans (hb3.mono HB1.out.size))
        generalize (ks.getD j k0).1 = T at cj HIS
        generalize (ks.getD j k0).2 = b at cj HIS
        have i0 : (0 : Int) ≤ (j : Int) := by omega
        have i1 : (j : Int) < ((ks.length : Nat) : Int) := by omega
        have hmi : ∀ (W : World), True := fun _ => trivial
        have HDJ := hid hdj
        clear hb3 hdj hmi
        by_cases hyes : j + 1 = ks.length ∧ d = c
        · rw [decide_eq_true hyes] at HIS
          have HDC := hid hyes.2
          clear hyes
          go_wp2_with (first | (go_at_call 29; refine (HN.out _ HBW.out).mono ?_; rintro e w2 ⟨rfl, rfl⟩) | (go_at_call 28; refine (HIS.out _ HBW.out).mono ?_; rintro e w3 ⟨rfl, hb4⟩; have HB4 := hid hb4; clear hb4))
          go_ret
          exact ⟨by show Ending.returned (Value.int .i64 (d : Int)) = _; rw [HDC.out], bthen HBW.out HB4.out⟩
        · rw [decide_eq_false hyes] at HIS
          have HY := hid hyes
          clear hyes
          go_wp2_with (first | (go_at_call 29; refine (HN.out _ HBW.out).mono ?_; rintro e w2 ⟨rfl, rfl⟩) | (go_at_call 28; refine (HIS.out _ HBW.out).mono ?_; rintro e w3 ⟨rfl, hb4⟩; have HB4 := hid hb4; clear hb4))
          go_roundw
          case rel =>
            refine ⟨j + 1, by omega, fun e => ?_, by go_num, bthen HB3.out HB4.out⟩
            have h : ¬ j + 1 = ks.length := fun h => HY.out ⟨h, e⟩
            omega
          case measure => simp [intOf]; omega
      · have hdc : d < c := by
          have h : ¬ d = c := fun e => hlt (hdj e)
          omega
        clear hdj
        go_wp2_with fail
        go_roundw
        case rel => exact ⟨d + 1, by omega, by omega, by go_num, HB3.out⟩
        case measure => simp [intOf]; omega

end Go.Proofs.YtblalejegjieaaaGreatDoor
