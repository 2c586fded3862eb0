/-
  Take and Drop in plain words, state by state.
-/
import Derived.Test.YtmcmajndcbobpaaTold9
namespace Go.Proofs.Ytmcmajndcbobpaa
open Go.RowKit
attribute [local go_sem] Later.cell Later.frozen

section
variable {m : PM} {s : MS} {h : HD} (hm : mayH m h)
include hm
theorem mcT0 (e : h.s = 0) : mcTake m s h = (⟨h.t, h.l, 1, h.rd, h.x⟩, s.stored (m.node h.t h.l 0) 1) := by unfold mcTake; rw [if_pos hm, if_pos e]
theorem mcT1 (e : h.s = 1) : mcTake m s h = (⟨h.t, h.l, 2, h.rd, h.x⟩, s.stored (m.node h.t h.l 1) 0) := by unfold mcTake; rw [if_pos hm, if_neg (by omega), if_pos e]
theorem mcT2 (e : h.s = 2) : mcTake m s h = (⟨h.t, h.l, 3, h.rd, s.vAt (m.at_ 3 h.l 0)⟩, s.loaded (m.at_ 3 h.l 0)) := by unfold mcTake; rw [if_pos hm, if_neg (by omega), if_neg (by omega), if_pos e]
theorem mcT3 (e : h.s = 3) : mcTake m s h = mcQueue m s h := by unfold mcTake; rw [if_pos hm, if_neg (by omega), if_neg (by omega), if_neg (by omega), if_pos e]
theorem mcT4 (e : h.s = 4) : mcTake m s h = if 0 ≤ nodeF m h.l h.x 1 then (⟨h.t, h.l, 5, h.rd, 0⟩, s.stored (nodeF m h.l h.x 1) (idF m h.t h.l)) else (h, s) := by unfold mcTake; rw [if_pos hm, if_neg (by omega), if_neg (by omega), if_neg (by omega), if_neg (by omega), if_pos e]
theorem mcT5 (e : h.s = 5) : mcTake m s h = (if s.vAt (m.node h.t h.l 0) = 0 then ⟨h.t, h.l, 9, h.rd, h.x⟩ else h, s.loaded (m.node h.t h.l 0)) := by unfold mcTake; rw [if_pos hm, if_neg (by omega), if_neg (by omega), if_neg (by omega), if_neg (by omega), if_neg (by omega), if_pos e]
theorem mcTq (e : 5 < h.s) : mcTake m s h = (h, s) := by unfold mcTake; rw [if_pos hm, if_neg (by omega), if_neg (by omega), if_neg (by omega), if_neg (by omega), if_neg (by omega), if_neg (by omega)]
theorem mcD9 (e : h.s = 9) : mcDrop m s h = (if s.vAt (m.node h.t h.l 1) = 0 then ⟨h.t, h.l, 7, h.rd, h.x⟩ else ⟨h.t, h.l, 8, h.rd, s.vAt (m.node h.t h.l 1)⟩, s.loaded (m.node h.t h.l 1)) := by unfold mcDrop; rw [if_pos hm, if_pos e]
theorem mcD6 (e : h.s = 6) : mcDrop m s h = (if s.vAt (m.node h.t h.l 1) = 0 then h else ⟨h.t, h.l, 8, h.rd, s.vAt (m.node h.t h.l 1)⟩, s.loaded (m.node h.t h.l 1)) := by unfold mcDrop; rw [if_pos hm, if_neg (by omega), if_pos e]
theorem mcD7 (e : h.s = 7) : mcDrop m s h = (if s.vAt (m.at_ 3 h.l 0) = idF m h.t h.l then ⟨h.t, h.l, 0, h.rd, h.x⟩ else ⟨h.t, h.l, 6, h.rd, h.x⟩, s.swapped (m.at_ 3 h.l 0) (idF m h.t h.l) 0) := by unfold mcDrop; rw [if_pos hm, if_neg (by omega), if_neg (by omega), if_pos e]
theorem mcD8 (e : h.s = 8) : mcDrop m s h = if 0 ≤ nodeF m h.l h.x 0 then (⟨h.t, h.l, 0, h.rd, 0⟩, s.stored (nodeF m h.l h.x 0) 0) else (h, s) := by unfold mcDrop; rw [if_pos hm, if_neg (by omega), if_neg (by omega), if_neg (by omega), if_pos e]
end

theorem field_at (k a v o : Int) (d : Bool) (W : World) : (Instr.field 70 (.agg #[.int .i64 k, .int .i64 a, .int .i64 v, .int .i64 o, .bool d]) 1).run Try.prog W = .ok (.int .i64 a) W := by kernel_rfl

end Go.Proofs.Ytmcmajndcbobpaa
