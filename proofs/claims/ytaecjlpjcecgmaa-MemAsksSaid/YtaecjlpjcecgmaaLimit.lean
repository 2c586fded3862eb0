/-
  MemLimit, its walk.
-/
import Derived.Test.YtaecjlpjcecgmaaTold
namespace Go.Proofs.Ytaecjlpjcecgmaa
open Go.RowKit

theorem made_zeros {w : World} {B : Nat} {E : TypeId} {a : Option Addr} {n c : Nat} (h : w.ownsRow B E 1 (.slice a n c) n (madeCells (Value.int .i64 0).cells (n * 1)).toList) : IntRow w a n (List.replicate n 0) := by
  refine IntRow.of_own (B := B) (E := E) (c := c) ?_
  have e : (madeCells (Value.int .i64 0).cells (n * 1)).toList = (List.replicate n (0 : Int)).map (Value.int .i64) := by
    rw [show (Value.int .i64 0).cells = #[Value.int .i64 0] from rfl, toList_madeCells_one, Nat.mul_one, List.map_replicate]
  rw [← e]; exact h

theorem u64_nonneg (n : Int) : 0 ≤ IntKind.u64.wrap n := by
  simp only [IntKind.wrap, IntKind.signed, Bool.false_and]
  exact Int.emod_nonneg _ (by decide)

theorem len_made {w : World} {B b : Nat} {vw : Value} {m : Nat} (h : Mem w B b vw (MS.new (List.replicate (4094 + m) 0))) :
    Calls Try.prog 22 #[.pointer (some ⟨b, 0, none⟩)] w fun e w' => e = .returned (.int .i64 (4094 + (m : Int))) ∧ w = w' := by
  refine (Len_any w B b vw _ h).mono ?_
  rintro e w' ⟨he, hw⟩
  have e2 : ((MS.new (List.replicate (4094 + m) 0)).zs.length : Int) = 4094 + (m : Int) := by simp [MS.new]
  rw [e2] at he
  exact ⟨he, hw⟩

set_option maxHeartbeats 1000000 in
theorem limit_few (n : Int) (w : World) (m : Nat) (hm : m ≤ 2) (hmod : IntKind.u64.wrap n % 5 = (m : Int)) :
    Calls Try.prog 8 #[.int .i64 n] w fun e w' => e = .returned (.bool true) ∧ Below w.heap.size w w' := by
  have hu := u64_nonneg n
  obtain ⟨i0, hi, hz0, hz1, hz2⟩ := info_parts infoE
  have E1 : Hid ((4094 : Int) + (m : Int) = ((4094 + m : Nat) : Int)) := hid (by omega)
  have E2 : Hid (i0.bytes * (4094 + m) ≤ 281474976710656) := hid (by rw [hz2]; omega)
  have E3 : Hid (4094 + m ≤ maxLen) := hid (by unfold maxLen; omega)
  have E4 : Hid (4094 + m ≤ 4096) := hid (by omega)
  go_enter Try.func8, Try.ntmps8
  go_wp2_with (first | (at_make; refine wpList_make_full _ rfl _ _ 22 rfl w.heap.size 2 i0 (.int .i64 0) 1 Try.underlying22 hi hz0 hz1 .i64 .i64 _ _ (4094 + m) rfl rfl E1.out E1.out E2.out E3.out (Nat.le_refl _) ?_; intro w1 hown hg1; have HO := hid hown; clear hown) | (go_at_call 10; refine (New_any _ _ _ _ _ (made_zeros HO.out) E4.out).mono ?_; rintro e w2 ⟨b, vw, rfl, hmm, hb2⟩; have HM := hid hmm; clear hmm) | (go_at_call 19; refine (Load_nil _ _).mono ?_; rintro e w' ⟨rfl, rfl⟩) | (go_at_call 16; refine (Swap_nil _ _ _ _).mono ?_; rintro e w' ⟨rfl, rfl⟩) | (go_at_call 9; refine (told_any _).mono ?_; rintro e w3 ⟨rfl, hb3⟩; have HM3 := hid (HM.out.kept (Wrote.of_below hb3 (fun _ => False)) (fun _ _ h => h))) | (go_at_call 22; (first | ((with_reducible refine (Len_nil _).mono ?_); rintro e w' ⟨rfl, rfl⟩) | ((with_reducible refine (len_made HM3.out).mono ?_); rintro e w' ⟨rfl, rfl⟩))) | (go_at_call 20; refine (Store_nil _ _ _).mono ?_; rintro e w' ⟨rfl, rfl⟩) | (go_at_call 13; refine (Steps_nil _).mono ?_; rintro e w' ⟨rfl, rfl⟩) | (go_at_call 17; refine (Peek_nil _ _).mono ?_; rintro e w' ⟨rfl, rfl⟩) | (go_at_call 21; refine (All_nil _).mono ?_; rintro e w' ⟨rfl, rfl⟩))
  go_ret
  refine ⟨rfl, ?_⟩
  have h1 : Below w.heap.size w w1 := (Below.refl _ w).grown hg1 (Nat.le_refl _) (by simp)
  exact (h1.trans (hb2.mono h1.size)).trans (hb3.mono (Nat.le_trans h1.size hb2.size))

set_option maxHeartbeats 1000000 in
theorem limit_many (n : Int) (w : World) (m : Nat) (hm : 2 < m) (hm5 : m < 5) (hmod : IntKind.u64.wrap n % 5 = (m : Int)) :
    Calls Try.prog 8 #[.int .i64 n] w fun e w' => e = .returned (.bool true) ∧ Below w.heap.size w w' := by
  have hu := u64_nonneg n
  obtain ⟨i0, hi, hz0, hz1, hz2⟩ := info_parts infoE
  have E1 : Hid ((4094 : Int) + (m : Int) = ((4094 + m : Nat) : Int)) := hid (by omega)
  have E2 : Hid (i0.bytes * (4094 + m) ≤ 281474976710656) := hid (by rw [hz2]; omega)
  have E3 : Hid (4094 + m ≤ maxLen) := hid (by unfold maxLen; omega)
  have E4 : Hid (4096 < 4094 + m) := hid (by omega)
  have hd : decide ((4094 : Int) + (m : Int) ≤ 4096) = false := by simp; omega
  go_enter Try.func8, Try.ntmps8
  go_wp2_with (first | (at_make; refine wpList_make_full _ rfl _ _ 22 rfl w.heap.size 2 i0 (.int .i64 0) 1 Try.underlying22 hi hz0 hz1 .i64 .i64 _ _ (4094 + m) rfl rfl E1.out E1.out E2.out E3.out (Nat.le_refl _) ?_; intro w1 _ hg1) | (go_at_call 10; refine (New_many _ _ _ _ E4.out E3.out).mono ?_; rintro e w2 ⟨rfl, rfl⟩) | (go_at_call 19; refine (Load_nil _ _).mono ?_; rintro e w' ⟨rfl, rfl⟩) | (go_at_call 16; refine (Swap_nil _ _ _ _).mono ?_; rintro e w' ⟨rfl, rfl⟩) | (go_at_call 9; refine (told_any _).mono ?_; rintro e w3 ⟨rfl, hb3⟩) | (go_at_call 22; refine (Len_nil _).mono ?_; rintro e w' ⟨rfl, rfl⟩) | (go_at_call 20; refine (Store_nil _ _ _).mono ?_; rintro e w' ⟨rfl, rfl⟩) | (go_at_call 13; refine (Steps_nil _).mono ?_; rintro e w' ⟨rfl, rfl⟩) | (go_at_call 17; refine (Peek_nil _ _).mono ?_; rintro e w' ⟨rfl, rfl⟩) | (go_at_call 21; refine (All_nil _).mono ?_; rintro e w' ⟨rfl, rfl⟩))
  go_ret
  refine ⟨rfl, ?_⟩
  have h1 : Below w.heap.size w w1 := (Below.refl _ w).grown hg1 (Nat.le_refl _) (by simp)
  exact h1.trans (hb3.mono h1.size)

theorem limit_walk (n : Int) (w : World) :
    Calls Try.prog 8 #[.int .i64 n] w fun e w' => e = .returned (.bool true) ∧ Below w.heap.size w w' := by
  have hu := u64_nonneg n
  obtain ⟨m, hm⟩ : ∃ m : Nat, IntKind.u64.wrap n % 5 = (m : Int) := ⟨(IntKind.u64.wrap n % 5).toNat, by omega⟩
  by_cases h : m ≤ 2
  · exact limit_few n w m h hm
  · exact limit_many n w m (by omega) (by omega) hm

end Go.Proofs.Ytaecjlpjcecgmaa
