/-
  THE CONTRACTS OF package place: find, and the words of a name.
-/
import Derived.Test.YtjekhjjighbfaaaDoorNode
import Derived.Test.YtjekhjjighbfaaaDoorItoa
namespace Go.Proofs.YtjekhjjighbfaaaDoor
open Go.RowKit

/-- The kind of the word at a. -/
def IsKind (m : PM) (a : Int) (k : Nat) : Prop := k < 9 ∧ m.from_ k ≤ a ∧ (k = 8 ∨ a < m.from_ (k + 1))

def Found (m : PM) (a : Int) (e : Ending) : Prop := ∃ k, IsKind m a k ∧ e = .returned (.tuple #[.int .i64 (k : Int), .int .i64 ((a - m.from_ k) / PM.each k), .int .i64 ((a - m.from_ k) % PM.each k)])

set_option maxHeartbeats 1000000 in
theorem find_any (m : PM) (a : Int) (w : World) (h : m.Ok) (h0 : 0 ≤ a) (h1 : a ≤ 1000) :
    Calls Tryd.prog 44 #[m.v, .int .i64 a] w fun e w' => Found m a e ∧ Below w.heap.size w w' := by
  have HO := hid h
  have HM := hid (m.bounds h)
  obtain ⟨s, l, t, c, d⟩ := m
  generalize hm : PM.mk s l t c d = m at *
  have HE := hid hm
  clear h
  have hv : m.v = .agg #[.int .i64 s, .int .i64 l, .int .i64 t, .int .i64 c, .int .i64 d] := by rw [← hm]
  rw [hv]
  have HV := hid hv
  clear hm hv
  go_enter Tryd.func44, Tryd.ntmps44
  go_wp2_with (first | (go_at_call 39; rw [← HV.out]; refine (rows_any m _ HO.out).mono ?_; rintro e w2 ⟨rfl, hb2⟩; have HB2 := hid hb2; clear hb2) | (with_reducible refine wpList_store_fresh (o := ⟨none, .store 49 _ _, _, _, _, _⟩) rfl 49 (.tmp 7) (.tmp 11) rfl w2.heap.size rfl 49 _ (PM.lay m 9) (by kernel_rfl) (by kernel_rfl) 27 rowsSize (by kernel_rfl) (by kernel_rfl) (PM.lay_one _ _) ?_))
  have HL := hid (heap_alloc_new w2 (.cells (m.lay 9) 49))
  generalize hw3 : w2.alloc (.cells (m.lay 9) 49) = w3 at *
  have HW3 := hid hw3
  clear hw3
  have HZ : Hid (∀ n, Below w.heap.size w (w3.drewN n)) := hid fun n => by
    have h1 := bnew (bthen (bnew (bid w) _) HB2.out) (.cells (m.lay 9) 49)
    rw [← HW3.out]
    exact ⟨h1.os, h1.tape, h1.output, h1.size, h1.block⟩
  go_loop [8] (fun k => ∃ n : Nat, n ≤ 8 ∧ k = .int .i64 n ∧ m.from_ n ≤ a) (fun k => 8 - (intOf k).toNat)
  case atStart => exact ⟨0, Nat.zero_le _, rfl, h0⟩
  case round =>
    obtain ⟨n, hn, rfl, hf⟩ := hrel
    have HF := hid hf
    clear hf
    by_cases hlt : n < 8
    · have c1 := (cell_of_blk HL.out ((n + 1) * 3)).trans (m.lay_from (n + 1) (by omega))
      obtain ⟨b1, b2, _⟩ := HM.out (n + 1) (by omega)
      by_cases hge : m.from_ (n + 1) ≤ a
      · have HG := hid hge
        generalize m.from_ (n + 1) = F at c1 hge b1 b2
        go_wp2
        go_round
        case rel => exact ⟨n + 1, by omega, by go_num, HG.out⟩
        case measure => simp [intOf]; omega
      · have c3 := (cell_of_blk HL.out (n * 3)).trans (m.lay_from n (by omega))
        have c4 := (cell_of_blk HL.out (n * 3 + 2)).trans (m.lay_each n (by omega))
        obtain ⟨b3, b4, _, _, b5, b6⟩ := HM.out n (by omega)
        have HK : Hid (IsKind m a n) := hid ⟨by omega, HF.out, .inr (by omega)⟩
        have hfa := HF.out
        generalize m.from_ (n + 1) = F at c1 hge b1 b2
        generalize hQ : m.from_ n = G at c3 hfa b3 b4
        generalize hR : PM.each n = E at c4 b5 b6
        have HQ := hid hQ
        have HR := hid hR
        clear hQ hR
        have i1 : (0 : Int) ≤ (n : Int) := by omega
        have i2 : (n : Int) < 9 := by omega
        go_wp2
        go_quiet (fail)
        go_wp2
        go_ret3
        exact ⟨⟨n, HK.out, by rw [HQ.out, HR.out]; rfl⟩, HZ.out nq⟩
    · obtain rfl : n = 8 := by omega
      have c3 := (cell_of_blk HL.out 24).trans (m.lay_from 8 (by omega))
      have c4 := (cell_of_blk HL.out 26).trans (m.lay_each 8 (by omega))
      obtain ⟨b3, b4, _, _, b5, b6⟩ := HM.out 8 (by omega)
      have HK : Hid (IsKind m a 8) := hid ⟨by omega, HF.out, .inl rfl⟩
      have hfa := HF.out
      generalize hQ : m.from_ 8 = G at c3 hfa b3 b4
      generalize hR : PM.each 8 = E at c4 b5 b6
      have HQ := hid hQ
      have HR := hid hR
      clear hQ hR hlt
      go_wp2
      go_quiet (fail)
      go_wp2
      go_ret3
      exact ⟨⟨8, HK.out, by rw [HQ.out, HR.out]; rfl⟩, HZ.out nq⟩

end Go.Proofs.YtjekhjjighbfaaaDoor
