/-
  What is added to a lock's words: both sides' contracts; told.
-/
import Derived.Test.YtjfinnjmcnjciaaWdC
namespace Go.Proofs.Ytjfinnjmcnjciaa
open Go.RowKit
attribute [local go_sem] Later.cell Later.frozen

def MarkRet (w : World) (a : Int) (read leave : Bool) (e : Ending) (w' : World) : Prop :=
  e = .returned (.tuple #[.int .i64 (markP a read), .int .i64 (markN a read leave)]) ∧ Below w.heap.size w w'

set_option maxHeartbeats 4000000 in
theorem Mark_any (m : PM) (i : Int) (read leave : Bool) (w : World) :
    Calls Try.prog 39 #[m.v, .int .i64 i, .bool read, .bool leave] w (MarkRet w (m.at_ 3 i 4) read leave) := by
  have HL := hid (fun (q : Int) W => Lock_any m i q W)
  have HT := hid (lock_two m i)
  obtain ⟨s, l, t, c, d⟩ := m
  show Calls _ _ #[.agg #[.int .i64 s, .int .i64 l, .int .i64 t, .int .i64 c, .int .i64 d], _, _, _] _ _
  have HL4 := hid (HL.out 4)
  have HL5 := hid (HL.out 5)
  clear HL
  generalize PM.at_ ⟨s, l, t, c, d⟩ 3 i 4 = x at *
  generalize PM.at_ ⟨s, l, t, c, d⟩ 3 i 5 = y at *
  rcases HT.out with ⟨rfl, rfl⟩ | ⟨h4, _, rfl⟩
  · clear HT
    cases read <;> cases leave
    all_goals
      go_enter Try.func39, Try.ntmps39
      go_wp2_with (go_at_call 32; go_must ((first | (with_reducible refine (HL4.out _).mono ?_) | (with_reducible refine (HL5.out _).mono ?_)); rintro e w2 ⟨rfl, hb⟩; have HB2 := hid (bthen (bnew (bid w) _) hb); clear hb))
      exact bodyPost_ret (v := .tuple #[.int .i64 (-1), .int .i64 0]) (by simp [results, Try.results39, go_sem]) rfl ⟨rfl, HB2.out⟩
  · clear HT
    have n1 : ¬ x < 0 := by omega
    have n2 : ¬ x + 1 < 0 := by omega
    have HP := hid (show ∀ r, markP x r = if r = true then x + 1 else x from fun r => by unfold markP; rw [if_neg n1])
    have HN := hid (show ∀ r l, markN x r l = if r = true then (if l = true then -1 else 65) else 1 from fun r l => by unfold markN; rw [if_neg n1])
    cases read with
    | false =>
      cases leave
      all_goals
        go_enter Try.func39, Try.ntmps39
        go_wp2_with (go_at_call 32; go_must ((with_reducible refine (HL4.out _).mono ?_); rintro e w2 ⟨rfl, hb⟩; have HB2 := hid (bthen (bnew (bid w) _) hb); clear hb))
        exact bodyPost_ret (v := .tuple #[.int .i64 x, .int .i64 1]) (by simp [results, Try.results39, go_sem]) rfl ⟨by rw [HP.out, HN.out]; rfl, HB2.out⟩
    | true =>
      cases leave with
      | false =>
        go_enter Try.func39, Try.ntmps39
        go_wp2_with (go_at_call 32; go_must ((with_reducible refine (HL5.out _).mono ?_); rintro e w2 ⟨rfl, hb⟩; have HB2 := hid (bthen (bnew (bid w) _) hb); clear hb))
        exact bodyPost_ret (v := .tuple #[.int .i64 (x + 1), .int .i64 65]) (by simp [results, Try.results39, go_sem]) rfl ⟨by rw [HP.out, HN.out]; rfl, HB2.out⟩
      | true =>
        go_enter Try.func39, Try.ntmps39
        go_wp2_with (go_at_call 32; go_must ((with_reducible refine (HL5.out _).mono ?_); rintro e w2 ⟨rfl, hb⟩; have HB2 := hid (bthen (bnew (bid w) _) hb); clear hb))
        exact bodyPost_ret (v := .tuple #[.int .i64 (x + 1), .int .i64 (-1)]) (by simp [results, Try.results39, go_sem]) rfl ⟨by rw [HP.out, HN.out]; rfl, HB2.out⟩

set_option maxHeartbeats 4000000 in
theorem rMark_any (m : PM) (i : Int) (read leave : Bool) (w : World) :
    Calls Try.prog 40 #[m.v, .int .i64 i, .bool read, .bool leave] w (MarkRet w (m.at_ 3 i 4) read leave) := by
  have HL := hid (fun W => refLock_any m i 4 W)
  have HT := hid (lock_two m i)
  obtain ⟨s, l, t, c, d⟩ := m
  show Calls _ _ #[.agg #[.int .i64 s, .int .i64 l, .int .i64 t, .int .i64 c, .int .i64 d], _, _, _] _ _
  generalize PM.at_ ⟨s, l, t, c, d⟩ 3 i 4 = x at *
  generalize PM.at_ ⟨s, l, t, c, d⟩ 3 i 5 = y at *
  rcases HT.out with ⟨rfl, _⟩ | ⟨h4, h9, _⟩
  · clear HT
    cases read <;> cases leave
    all_goals
      go_enter Try.func40, Try.ntmps40
      go_wp2_with (go_at_call 81; go_must ((with_reducible refine (HL.out _).mono ?_); rintro e w2 ⟨rfl, hb⟩; have HB2 := hid (bthen (bnew (bid w) _) hb); clear hb))
      exact bodyPost_ret (v := .tuple #[.int .i64 (-1), .int .i64 0]) (by simp [results, Try.results40, go_sem]) rfl ⟨rfl, HB2.out⟩
  · clear HT
    have n1 : ¬ x < 0 := by omega
    have n2 : wrap64 (x + 1) = x + 1 := by unfold wrap64; omega
    have HP := hid (show ∀ r, markP x r = if r = true then x + 1 else x from fun r => by unfold markP; rw [if_neg n1])
    have HN := hid (show ∀ r l, markN x r l = if r = true then (if l = true then -1 else 65) else 1 from fun r l => by unfold markN; rw [if_neg n1])
    clear h9 h4
    cases read with
    | false =>
      cases leave
      all_goals
        go_enter Try.func40, Try.ntmps40
        go_wp2_with (go_at_call 81; go_must ((with_reducible refine (HL.out _).mono ?_); rintro e w2 ⟨rfl, hb⟩; have HB2 := hid (bthen (bnew (bid w) _) hb); clear hb))
        exact bodyPost_ret (v := .tuple #[.int .i64 x, .int .i64 1]) (by simp [results, Try.results40, go_sem, n2]) rfl ⟨by rw [HP.out, HN.out]; rfl, HB2.out⟩
    | true =>
      cases leave with
      | false =>
        go_enter Try.func40, Try.ntmps40
        go_wp2_with (go_at_call 81; go_must ((with_reducible refine (HL.out _).mono ?_); rintro e w2 ⟨rfl, hb⟩; have HB2 := hid (bthen (bnew (bid w) _) hb); clear hb))
        exact bodyPost_ret (v := .tuple #[.int .i64 (x + 1), .int .i64 65]) (by simp [results, Try.results40, go_sem, n2]) rfl ⟨by rw [HP.out, HN.out]; rfl, HB2.out⟩
      | true =>
        go_enter Try.func40, Try.ntmps40
        go_wp2_with (go_at_call 81; go_must ((with_reducible refine (HL.out _).mono ?_); rintro e w2 ⟨rfl, hb⟩; have HB2 := hid (bthen (bnew (bid w) _) hb); clear hb))
        exact bodyPost_ret (v := .tuple #[.int .i64 (x + 1), .int .i64 (-1)]) (by simp [results, Try.results40, go_sem, n2]) rfl ⟨by rw [HP.out, HN.out]; rfl, HB2.out⟩

set_option maxHeartbeats 4000000 in
theorem told17_any (w : World) : Calls Try.prog 41 #[] w fun e w' => e = .returned (.bool true) ∧ Below w.heap.size w w' := by
  have HMp := hid (fun W => Map_any W)
  have HM := hid (fun W => Mark_any mp4 1 true false W)
  have HL0 := hid (fun W => Lock_any mp4 0 4 W)
  have HL1 := hid (fun W => Lock_any mp4 1 5 W)
  have HH := hid (fun W => Held_any mp4 0 8 3 W)
  rw [show mp4.at_ 3 0 4 = 8 by decide] at HL0 HH
  rw [show mp4.at_ 3 1 5 = 15 by decide] at HL1
  rw [show heldF 8 8 3 = true by decide] at HH
  unfold MarkRet at HM
  rw [show mp4.at_ 3 1 4 = 14 by decide, show markP 14 true = 15 by decide, show markN 14 true false = 65 by decide] at HM
  go_enter Try.func41, Try.ntmps41
  go_upto_region 2 with (go_at_call 44; go_must ((with_reducible refine (HMp.out _).mono ?_); rintro e w1 ⟨rfl, hb⟩; have HB1 := hid hb; clear hb))
  go_upto_region 3 with (go_at_call 39; go_must ((with_reducible refine (HM.out _).mono ?_); rintro e w2 ⟨rfl, hb⟩; have HB2 := hid hb; clear hb))
  have HMA := hid ((MapAt.new 31 w1 mp4).below HB2.out)
  have HBA := hid (bthen (bnew HB1.out _) HB2.out)
  obtain ⟨x0, x1, x2, x3, x4, xl⟩ := HMA.out.facts
  clear HB1 HB2 HMA
  refine wp_region_later (by kernel_rfl) (by kernel_rfl) ?_
  repeat (go_big_quiet_step (first | (go_at_call 32; first | (with_reducible exact later_call (HL0.out _)) | (with_reducible exact later_call (HL1.out _))) | (go_at_call 42; with_reducible exact later_call (HH.out _))))
  refine wpQuiet_nil ?_
  rintro _ ⟨x, rfl⟩
  go_wp2_with fail
  go_ret
  exact ⟨rfl, bthen HBA.out x.below⟩

end Go.Proofs.Ytjfinnjmcnjciaa
