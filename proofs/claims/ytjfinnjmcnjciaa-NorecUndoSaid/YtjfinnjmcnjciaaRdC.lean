/-
  THE CONTRACTS of package reads, but for those that make or write.
-/
import Derived.Test.YtjfinnjmcnjciaaRdP
import Derived.Test.YtjfinnjmcnjciaaStage
import Derived.Test.YtjfinnjmcnjciaaLater
import Derived.Deep.DeepCutAuto
import Derived.BigQuiet
namespace Go.Proofs.Ytjfinnjmcnjciaa
open Go.RowKit
attribute [local go_sem] Later.cell Later.frozen

set_option maxHeartbeats 400000 in
theorem Rdlist_nil (w : World) : Calls Try.prog 102 #[.pointer none] w fun e w' => e = .returned (.slice none 0 0) ∧ w = w' := by
  go_enter Try.func102, Try.ntmps102
  go_wp2
  go_ret
  exact ⟨rfl, rfl⟩

set_option maxHeartbeats 400000 in
theorem Rdlist_any (b R : Nat) (ws : List Wd) (w : World) (h : SetAt w b R ws) :
    Calls Try.prog 102 #[.pointer (some ⟨b, 0, none⟩)] w fun e w' => e = .returned (.slice (some ⟨b, 2, none⟩) ws.length 32) ∧ Below w.heap.size w w' := by
  obtain ⟨c0, c1, cf, _⟩ := h.facts
  have f1 := cf 1
  have l1 : (0 : Int) ≤ (ws.length : Int) := by omega
  have l2 : (ws.length : Int) ≤ 32 := by have := h.len; have := h.room; omega
  have hlt := h.lt
  clear h cf
  generalize ws.length = n at *
  go_enter Try.func102, Try.ntmps102
  go_wp2
  go_quiet (fail)
  go_wp2
  go_ret
  exact ⟨rfl, rfl, rfl, rfl, Nat.le_refl _, fun _ _ => rfl⟩

set_option maxHeartbeats 400000 in
theorem RdLen_nil (w : World) : Calls Try.prog 135 #[.pointer none] w fun e w' => e = .returned (.int .i64 0) ∧ w = w' := by
  go_enter Try.func135, Try.ntmps135
  go_wp2_with (go_at_call 102; (with_reducible refine (Rdlist_nil _).mono ?_); rintro e w' ⟨rfl, rfl⟩)
  go_ret
  exact ⟨rfl, rfl⟩

set_option maxHeartbeats 400000 in
theorem RdLen_any (b R : Nat) (ws : List Wd) (w : World) (h : SetAt w b R ws) :
    Calls Try.prog 135 #[.pointer (some ⟨b, 0, none⟩)] w fun e w' => e = .returned (.int .i64 ws.length) ∧ Below w.heap.size w w' := by
  have H := hid h
  clear h
  go_enter Try.func135, Try.ntmps135
  go_wp2_with (go_at_call 102; (with_reducible refine (Rdlist_any _ _ _ _ H.out).mono ?_); rintro e w' ⟨rfl, hb⟩)
  go_ret
  exact ⟨rfl, hb⟩

set_option maxHeartbeats 400000 in
theorem RdHas_nil (k : Int) (w : World) : Calls Try.prog 117 #[.pointer none, .int .i64 k] w fun e w' => e = .returned (.bool false) ∧ w = w' := by
  go_enter Try.func117, Try.ntmps117
  go_wp2_with (go_at_call 102; (with_reducible refine (Rdlist_nil _).mono ?_); rintro e w' ⟨rfl, rfl⟩)
  go_loopw [10] (fun i W => i = .int .i64 0 ∧ W = w) (fun _ _ => 0)
  case atStart => exact ⟨rfl, rfl⟩
  case round =>
    obtain ⟨rfl, rfl⟩ := hrel
    go_wp2
    go_ret
    exact ⟨rfl, rfl⟩

set_option maxHeartbeats 4000000 in
theorem RdHas_any (k : Int) (b R : Nat) (ws : List Wd) (w : World) (h : SetAt w b R ws) :
    Calls Try.prog 117 #[.pointer (some ⟨b, 0, none⟩), .int .i64 k] w fun e w' => e = .returned (.bool (hasL ws k)) ∧ Below w.heap.size w w' := by
  have H := hid h
  have HR := hid h.row
  obtain ⟨n, hn⟩ : ∃ n, n = ws.length := ⟨_, rfl⟩
  have HN := hid hn
  have hn32 : n ≤ 32 := by have := h.len; have := h.room; omega
  have HL := hid (fun (W : World) (h : SetAt W b R ws) => (show Calls Try.prog 102 #[.pointer (some ⟨b, 0, none⟩)] W fun e w' => e = .returned (.slice (some ⟨b, 2, none⟩) n 32) ∧ Below W.heap.size W w' from by have := Rdlist_any b R ws W h; rwa [← hn] at this))
  clear h hn
  go_enter Try.func117, Try.ntmps117
  go_wp2_with (go_at_call 102; go_must (with_reducible refine (HL.out _ H.out).mono ?_; rintro e w1 ⟨rfl, hb⟩; have HB := hid hb; clear hb))
  clear HL H
  go_loopw [10] (fun i W => ∃ j : Nat, j ≤ n ∧ i = .int .i64 j ∧ hasL (ws.take j) k = false ∧ Below w.heap.size w W) (fun i _ => n - (intOf i).toNat)
  case atStart => exact ⟨0, by omega, rfl, rfl, HB.out⟩
  case round =>
    clear HB
    obtain ⟨j, hj, rfl, hf, hb⟩ := hrel
    have HF := hid hf
    have HB := hid hb
    clear hf hb
    by_cases hlt : j < n
    · obtain ⟨p, hp⟩ := word_at (ws := ws) (k := j) (by rw [← HN.out]; exact hlt)
      obtain ⟨b', off, hbo, hbl, hcs⟩ := (HR.out.below HB.out).at (by rw [← HN.out]; omega)
      simp only [Option.some.injEq, Addr.mk.injEq, and_true] at hbo
      obtain ⟨rfl, rfl⟩ := hbo
      obtain ⟨cq0, cq1⟩ := hcs j p hp
      clear hcs
      have HP := hid hp
      have HS := hid (hasL_take hp k)
      clear hp
      have n1 : (0 : Int) ≤ (j : Int) := by omega
      have n2 : (j : Int) < (n : Int) := by omega
      obtain ⟨p1, p2⟩ := p
      by_cases hpk : p1 = k
      · subst hpk
        go_wp2_with fail
        go_ret
        exact ⟨by rw [hasL_hit HP.out rfl]; rfl, bnew HB.out _⟩
      · have hpe : (p1 == k) = false := by simpa using hpk
        go_wp2_with fail
        go_roundw
        case rel => exact ⟨j + 1, by omega, by go_num, by rw [HS.out, HF.out, hpe]; rfl, bnew HB.out _⟩
        case measure => simp [intOf]; omega
    · obtain rfl : j = n := by omega
      go_wp2_with fail
      go_ret
      exact ⟨by have h := HF.out; rw [HN.out, List.take_length] at h; rw [h]; rfl, HB.out⟩

end Go.Proofs.Ytjfinnjmcnjciaa
