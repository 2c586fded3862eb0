/-
  The document's example.
-/
import Derived.Test.YtdkjeggichgimaaWrS
import Derived.Test.YtdkjeggichgimaaRdRoom
namespace Go.Proofs.Ytdkjeggichgimaa
open Go.RowKit
attribute [local go_sem] Later.cell Later.frozen

set_option maxHeartbeats 400000 in
theorem told14_any (w : World) : Calls Try.prog 7 #[] w fun e w' => e = .returned (.bool true) ∧ Below w.heap.size w w' := by
  have HN := hid (fun (W : World) => (show Calls Try.prog 8 #[.int .i64 4] W (WNewRet W 4) from wNew_any 4 W))
  have HP := hid (fun (W : World) (b : Nat) (h : WSet W b 4 [] 0) => (show Calls Try.prog 13 #[.pointer (some ⟨b, 0, none⟩), .int .i64 64, .int .i64 1] W fun e w' => e = .returned (.bool true) ∧ WSet w' b 4 [(64, 1)] 0 ∧ Wrote (fun j => j = b) W w' from wPut_any 64 1 b 4 [] 0 W h))
  have HG := hid (fun (W : World) (b : Nat) (h : WSet W b 4 [(64, 1)] 0) => (show Calls Try.prog 11 #[.pointer (some ⟨b, 0, none⟩), .int .i64 0] W fun e w' => e = .returned (.tuple #[.int .i64 0, .bool false]) ∧ WSet w' b 4 [(64, 1)] 1 ∧ Wrote (fun j => j = b) W w' from wGet_any 0 b 4 [(64, 1)] 0 W h (by decide)))
  have HA := hid (fun (W : World) (b : Nat) (h : WSet W b 4 [(64, 1)] 1) => (show Calls Try.prog 18 #[.pointer (some ⟨b, 0, none⟩)] W fun e w' => e = .returned (.int .i64 1) ∧ W = w' from Asked_any b 4 _ 1 W h))
  have HF := hid (fun (W : World) (b : Nat) (h : WSet W b 4 [(64, 1)] 1) => (show Calls Try.prog 16 #[.pointer (some ⟨b, 0, none⟩)] W fun e w' => e = .returned (.int .u64 1) ∧ W = w' from Filter_any b 4 _ 1 W h))
  have HB : Hid (Below w.heap.size w w) := hid (bid w)
  go_enter Try.func7, Try.ntmps7
  go_wp2_with (first
    | (go_at_call 8; go_must ((with_reducible refine (HN.out _).mono ?_); rintro e w1 ⟨b, rfl, hwb, hs, hb⟩; have HS := hid hs; have HB := hid hb; clear hs hb))
    | (go_at_call 13; go_must ((with_reducible refine (HP.out _ _ HS.out).mono ?_); rintro e w2 ⟨rfl, hs, hw⟩; have HS := hid hs; have HB := hid (HB.out.trans (hw.below HB.out.size (fun k hk e => by omega))); clear hs hw))
    | (go_at_call 11; go_must ((with_reducible refine (HG.out _ _ HS.out).mono ?_); rintro e w2 ⟨rfl, hs, hw⟩; have HS := hid hs; have HB := hid (HB.out.trans (hw.below HB.out.size (fun k hk e => by omega))); clear hs hw))
    | (go_at_call 18; go_must ((with_reducible refine (HA.out _ _ HS.out).mono ?_); rintro e w3 ⟨rfl, rfl⟩))
    | (go_at_call 16; go_must ((with_reducible refine (HF.out _ _ HS.out).mono ?_); rintro e w4 ⟨rfl, rfl⟩)))
  go_ret
  exact ⟨rfl, HB.out⟩

end Go.Proofs.Ytdkjeggichgimaa
