/-
  The document's own digits of a number from 0 to 99.
-/
import Derived.Test.YtjekhjjighbfaaaDoorRefs2
import Derived.LoopN
import Derived.Laws.IdiomStrings
namespace Go.Proofs.YtjekhjjighbfaaaDoor
open Go.RowKit

/-- One digit as a text. -/
theorem digit_text (z : Int) (h0 : 0 ≤ z) (h1 : z < 10) (w : World) :
    (convert 66 9 (.slice (some ⟨w.heap.size, 0, none⟩) 1 1)).run Tryd.prog (w.alloc (.cells #[.int .u8 (48 + z)] 5)) = .ok (.string ⟨[UInt8.ofNat (48 + z.toNat)].toArray⟩) (w.alloc (.cells #[.int .u8 (48 + z)] 5)) := by
  refine run_convert_bytes_back (l := [UInt8.ofNat (48 + z.toNat)]) _ _ _ 5 ⟨w.heap.size, 0, none⟩ 1 Tryd.underlying66 Tryd.underlying5 Tryd.underlying9 (fun j hj => ?_)
  have hj0 : j = 0 := by simpa using hj
  subst hj0
  rw [add_zero, World.cell?_alloc_at _ _ _ _ rfl]
  have e : ((UInt8.ofNat (48 + z.toNat)).toNat : Int) = 48 + z := by
    rw [UInt8.toNat_ofNat']
    omega
  show some (Value.int .u8 (48 + z)) = some (Value.int .u8 (((UInt8.ofNat (48 + z.toNat)).toNat : Nat) : Int))
  rw [e]

theorem digit_text2 (z : Int) (h0 : 0 ≤ z) (h1 : z < 10) (w : World) (o : Obj) :
    (convert 66 9 (.slice (some ⟨w.heap.size + 1, 0, none⟩) 1 1)).run Tryd.prog ((w.alloc o).alloc (.cells #[.int .u8 (48 + z)] 5)) = .ok (.string ⟨[UInt8.ofNat (48 + z.toNat)].toArray⟩) ((w.alloc o).alloc (.cells #[.int .u8 (48 + z)] 5)) := by
  have h := digit_text z h0 h1 (w.alloc o)
  rw [size_alloc1] at h
  exact h
theorem app_nil (b : ByteArray) : b ++ (⟨#[]⟩ : ByteArray) = b := by
  apply ByteArray.ext
  simp

theorem app_one (a b : UInt8) : (⟨#[a]⟩ : ByteArray) ++ (⟨#[b]⟩ : ByteArray) = ⟨#[a, b]⟩ := by
  apply ByteArray.ext
  simp

theorem dd_one {n : Nat} (h : n < 10) : dd n = [UInt8.ofNat (48 + ((n : Int) % 10).toNat)] := by
  unfold dd
  rw [if_pos h]
  congr 2
  omega
theorem dd_two {n : Nat} (h : ¬ n < 10) (h2 : n < 100) : dd n = [UInt8.ofNat (48 + ((n : Int) / 10 % 10).toNat), UInt8.ofNat (48 + ((n : Int) % 10).toNat)] := by
  unfold dd
  rw [if_neg h]
  have e1 : n / 10 = ((n : Int) / 10 % 10).toNat := by omega
  have e2 : n % 10 = ((n : Int) % 10).toNat := by omega
  rw [← e1, ← e2]

set_option maxHeartbeats 1000000 in
theorem dec_zero (w : World) :
    Calls Tryd.prog 48 #[.int .i64 0] w fun e w' => e = .returned (.string ⟨(dd 0).toArray⟩) ∧ Below w.heap.size w w' := by
  have hd : ∀ W : World, (convert 66 9 (.slice (some ⟨W.heap.size, 0, none⟩) 1 1)).run Tryd.prog (W.alloc (.cells #[.int .u8 48] 5)) = .ok (.string ⟨#[48]⟩) (W.alloc (.cells #[.int .u8 48] 5)) := fun W => digit_text 0 (by decide) (by decide) W
  have ha := app_nil
  go_enter Tryd.func48, Tryd.ntmps48
  go_wp2
  refine wp_loop_rounds 2 ?_
  rw [rounds_succ]
  go_wp2
  rw [rounds_succ]
  go_wp2
  go_ret
  exact ⟨rfl, bnew (bid w) _⟩

set_option maxHeartbeats 1000000 in
theorem dec_one (n : Nat) (h : n < 10) (h0 : 0 < n) (w : World) :
    Calls Tryd.prog 48 #[.int .i64 (n : Int)] w fun e w' => e = .returned (.string ⟨(dd n).toArray⟩) ∧ Below w.heap.size w w' := by
  have hd := digit_text ((n : Int) % 10) (by omega) (by omega)
  have HD := hid (dd_one h)
  generalize UInt8.ofNat (48 + ((n : Int) % 10).toNat) = b0 at hd HD
  have hz : (n : Int) / 10 = 0 := by omega
  have e0 : 0 ≤ (n : Int) % 10 := by omega
  have e1 : (n : Int) % 10 < 10 := by omega
  have h1 : (0 : Int) < (n : Int) := by omega
  have ha := app_nil
  go_enter Tryd.func48, Tryd.ntmps48
  go_wp2
  refine wp_loop_rounds 2 ?_
  rw [rounds_succ]
  go_wp2
  rw [rounds_succ]
  go_wp2
  go_ret
  exact ⟨by rw [HD.out]; rfl, bnew (bid w) _⟩

set_option maxHeartbeats 1000000 in
theorem dec_two (n : Nat) (h : ¬ n < 10) (h2 : n < 100) (w : World) :
    Calls Tryd.prog 48 #[.int .i64 (n : Int)] w fun e w' => e = .returned (.string ⟨(dd n).toArray⟩) ∧ Below w.heap.size w w' := by
  have hd := digit_text ((n : Int) % 10) (by omega) (by omega)
  have hd2 := digit_text2 ((n : Int) / 10 % 10) (by omega) (by omega)
  have HD := hid (dd_two h h2)
  generalize UInt8.ofNat (48 + ((n : Int) % 10).toNat) = b0 at hd HD
  generalize UInt8.ofNat (48 + ((n : Int) / 10 % 10).toNat) = b1 at hd2 HD
  have e0 : 0 ≤ (n : Int) % 10 := by omega
  have e1 : (n : Int) % 10 < 10 := by omega
  have e2 : 0 < (n : Int) / 10 := by omega
  have e3 : (n : Int) / 10 < 10 := by omega
  have hz : (n : Int) / 10 / 10 = 0 := by omega
  have h1 : (0 : Int) < (n : Int) := by omega
  have ha := app_nil
  have hb := app_one b1 b0
  go_enter Tryd.func48, Tryd.ntmps48
  go_wp2
  refine wp_loop_rounds 3 ?_
  rw [rounds_succ]
  go_wp2
  rw [rounds_succ]
  go_wp2
  rw [rounds_succ]
  go_wp2
  go_ret
  exact ⟨by rw [HD.out]; rfl, bnew (bnew (bid w) _) _⟩

theorem Decimal_any (n : Nat) (h : n < 100) (w : World) :
    Calls Tryd.prog 48 #[.int .i64 (n : Int)] w fun e w' => e = .returned (.string ⟨(dd n).toArray⟩) ∧ Below w.heap.size w w' := by
  by_cases h1 : n < 10
  · by_cases h0 : n = 0
    · subst h0; exact dec_zero w
    · exact dec_one n h1 (by omega) w
  · exact dec_two n h1 h w

end Go.Proofs.YtjekhjjighbfaaaDoor
