/-
  BlameNone, walked; the document's example of layer 1.
-/
import Derived.Test.YtbobjhadckeieaaDoorTold1
namespace Go.Proofs.YtbobjhadckeieaaDoor
open Go.RowKit
set_option linter.unusedVariables false

theorem run_neq_nil (T : TypeId) (v : Value) (W : World) : (binOp .neq 34 (.iface T v) .nilIface).run Tryd.prog W = .ok (.bool true) W := by
  have h : ∀ d : Nat, (Op.equalIn (d + 1) 34 (.iface T v) .nilIface).run Tryd.prog W = .ok false W := fun d => by simp [Op.equalIn, run_underlying Tryd.underlying34]
  simp only [binOp]
  simp [Op.equal, Op.maxDepth, h 9999]
/-- The example's text. -/
def toldL : List UInt8 := [116, 104, 114, 101, 97, 100, 32, 49, 44, 32, 112, 108, 97, 99, 101, 32, 50, 58, 32, 116, 104, 114, 101, 97, 100, 32, 48, 44, 32, 112, 108, 97, 99, 101, 32, 51, 58, 32, 99, 111, 100, 101, 32, 53]
theorem itoa_one (i : Nat) (h : i < 10) : Lib.itoa (i : Int) = [UInt8.ofNat (48 + i)] := by rw [Lib.itoa_nonneg, Lib.decDigits_one h]
theorem told_text : partsL (consF 1 (consF 0 fun _ => 0)) (consF 2 (consF 3 fun _ => 0)) 2 ++ codeText 5 = toldL := by
  have e0 : Lib.itoa 0 = [48] := itoa_one 0 (by decide)
  have e1 : Lib.itoa 1 = [49] := itoa_one 1 (by decide)
  have e2 : Lib.itoa 2 = [50] := itoa_one 2 (by decide)
  have e3 : Lib.itoa 3 = [51] := itoa_one 3 (by decide)
  show (partL 1 2 ++ (partL 0 3 ++ [])) ++ codeText 5 = toldL
  unfold partL
  rw [e0, e1, e2, e3]
  rfl

def t2 : Nat → Int := consF 1 (consF 0 fun _ => 0)
def p2 : Nat → Int := consF 2 (consF 3 fun _ => 0)
theorem chain2 {sb : Nat → Addr} (w : World) (hE : Ers sb w) : Err ((w.alloc (.cells #[.int .i64 0, .int .i64 3, errV 167 (sb 5)] 71)).alloc (.cells #[.int .i64 1, .int .i64 2, errV 51 ⟨w.heap.size, 0, none⟩] 71)) sb 5 [(51, ⟨w.heap.size + 1, 0, none⟩), (51, ⟨w.heap.size, 0, none⟩), (167, sb 5)] t2 p2 := by
  have e1 := Err.one hE (c := 5) (by decide) (by decide) (fun _ => 0) (fun _ => 0)
  have e2 : Err (w.alloc (.cells #[.int .i64 0, .int .i64 3, errV 167 (sb 5)] 71)) sb 5 [(51, ⟨w.heap.size, 0, none⟩), (167, sb 5)] (consF 0 fun _ => 0) (consF 3 fun _ => 0) := e1.put (by simp) 0 3
  have e3 := e2.put (by simp) 1 2
  rw [size_alloc1] at e3
  exact e3
theorem text2 {sb : Nat → Addr} (w W : World) (hE : Ers sb W) (h : Err W sb 5 [(51, ⟨w.heap.size + 1, 0, none⟩), (51, ⟨w.heap.size, 0, none⟩), (167, sb 5)] t2 p2) :
    Calls Tryd.prog 21 #[errV 51 ⟨w.heap.size + 1, 0, none⟩] W fun e w' => e = .returned (.string (bsOf toldL)) ∧ Below W.heap.size W w' := by
  have h1 := Text_err hE (by decide) (by decide) h (by simp) (by simp) (fun j hj => by
    have : j = 0 ∨ j = 1 := by simp at hj; omega
    rcases this with rfl | rfl
    · exact ⟨Itoa_small _ 1 (by decide), Itoa_small _ 2 (by decide)⟩
    · exact ⟨Itoa_small _ 0 (by decide), Itoa_small _ 3 (by decide)⟩)
  have e : partsL t2 p2 ([(51, ⟨w.heap.size + 1, 0, none⟩), (51, ⟨w.heap.size, 0, none⟩), (167, sb 5)].length - 1) ++ codeText 5 = toldL := told_text
  rw [e] at h1
  exact h1
set_option maxRecDepth 100000 in
theorem code2 {sb : Nat → Addr} (w W : World) (hE : Ers sb W) (h : Err W sb 5 [(51, ⟨w.heap.size + 1, 0, none⟩), (51, ⟨w.heap.size, 0, none⟩), (167, sb 5)] t2 p2) :
    Calls Tryd.prog 17 #[errV 51 ⟨w.heap.size + 1, 0, none⟩] W fun e w' => e = .returned (.int .i64 5) ∧ Below W.heap.size W w' :=
  (Code_chain h.chain hE.sents h.ends (by decide) (by decide)).mono fun e w' hh => ⟨hh.1.trans rfl, hh.2⟩

set_option maxRecDepth 100000 in
set_option maxHeartbeats 4000000 in
theorem told1 {sb : Nat → Addr} (w : World) (hE : Ers sb w) : Calls Tryd.prog 12 #[] w fun e w' => e = .returned (.bool true) ∧ Below w.heap.size w w' := by
  have HN : Hid (∀ W, W = w → Calls Tryd.prog 26 #[.int .i64 5] W fun e w' => e = .returned (errV 167 (sb 5)) ∧ w' = W) := hid (by rintro W rfl; exact New_any hE.sents 5 (by decide) (by decide))
  have HR := hid (chain2 w hE)
  have HBB := hid (bnew (bnew (bid w) (.cells #[.int .i64 0, .int .i64 3, errV 167 (sb 5)] 71)) (.cells #[.int .i64 1, .int .i64 2, errV 51 ⟨w.heap.size, 0, none⟩] 71))
  have HE2 := hid (hE.below HBB.out)
  have hnn := run_neq_nil
  go_enter Tryd.func12, Tryd.ntmps12
  go_upto_region 2 with (first | (go_at_call 26; (with_reducible refine (HN.out _ rfl).mono ?_); rintro e w' ⟨rfl, rfl⟩) | (go_at_call 35; (with_reducible refine (Put_err _ _ _ _ _).mono ?_); rintro e w' ⟨rfl, rfl⟩))
  generalize hW : (w'.alloc (.cells #[.int .i64 0, .int .i64 3, errV 167 (sb 5)] 71)).alloc (.cells #[.int .i64 1, .int .i64 2, errV 51 ⟨w'.heap.size, 0, none⟩] 71) = W2 at HR HBB HE2 ⊢
  have HT := hid (text2 w' W2 HE2.out HR.out)
  have HCO := hid (fun W (hW : Below W2.heap.size W2 W) => code2 w' W (HE2.out.below hW) (HR.out.below hW))
  clear hW
  unfold bsOf toldL at HT
  go_wp2_with (first | (go_at_call 21; (with_reducible refine HT.out.mono ?_); rintro e w3 ⟨rfl, hb3⟩; have HB3 := hid hb3; clear hb3) | (go_at_call 17; (with_reducible refine (HCO.out _ HB3.out).mono ?_); rintro e w4 ⟨rfl, hb4⟩; have HB4 := hid hb4; clear hb4))
  go_ret
  exact ⟨rfl, bthen (bthen HBB.out HB3.out) HB4.out⟩

theorem unwrap_nil (w : World) : Calls Tryd.prog 119 #[.pointer none] w fun e w' => e = .returned .nilIface ∧ w = w' := by
  go_enter Tryd.func119, Tryd.ntmps119
  go_wp2
  go_ret
  exact ⟨rfl, by trivial⟩

end Go.Proofs.YtbobjhadckeieaaDoor
