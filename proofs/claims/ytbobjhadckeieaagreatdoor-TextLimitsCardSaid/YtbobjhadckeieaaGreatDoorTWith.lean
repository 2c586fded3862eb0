/-
  Package text: with, at an empty line and at a good one; errors.Is at nil.
-/
import Derived.Test.YtbobjhadckeieaaGreatDoorTInstr
namespace Go.Proofs.YtbobjhadckeieaaGreatDoor
open Go.RowKit
set_option linter.unusedVariables false

theorem append_ins_at {P : Program} {ops : Array Oper} {rest : List Oper} {o : Oper} {a : Act} {W : World} {Q : Exit → Act → World → Prop} (hgd : o.guard = none) (s x : Operand) (t : TypeId)
    (ho : o.op = .call { callee := .builtin .append, args := #[s, x], argTypes := #[t, t] })
    {B : Nat} {e : TypeId} {iI : TypeInfo} {z : Value} (ht : P.underlying t = some (.slice e)) (hi : P.info? e = some iI) (hz : iI.zero = some z) (hzs : z.cells.size = 5) (hsize : iI.size = 5) (hby : iI.bytes = 40)
    {v : Value} {n : Nat} {ps : List Ins} (hs : a.eval s = v) (hown : W.ownsRow B e 5 v n (insCells ps)) (p q r u y : Int) (H : Nat) (hH : W.heap.size = H) (hx : a.eval x = .slice (some ⟨H, 0, none⟩) 1 1)
    (h6 : n + 1 ≤ maxLen) (h7 : (n + 1) * 40 ≤ 140737488355328) (hB : B ≤ W.heap.size)
    (h : ∀ v' w', w'.ownsRow B e 5 v' (n + 1) (insCells (ps ++ [⟨p, q, r, u, y⟩])) → (v'.ownBlock = v.ownBlock ∨ v'.ownBlock = some (W.heap.size + 1)) → Wrote (fun b => v.ownBlock = some b) W w' → wpList P ops Q rest (a.put o.dst v') w') :
    wpList P ops Q (o :: rest) a (W.alloc (.cells #[.int .i64 p, .int .i64 q, .int .i64 r, .int .i64 u, .int .i64 y] e)) := by
  subst hH
  exact wpList_append_ins hgd s x t ho ht hi hz hzs hsize hby hs hown p q r u y hx h6 h7 hB h
theorem run_eql_nil_r (t : TypeId) (v : Value) (W : World) : (binOp .eql 47 .nilIface (.iface t v)).run Tryz.prog W = .ok (.bool false) W := by
  have h : ∀ d : Nat, (Op.equalIn (d + 1) 47 .nilIface (.iface t v)).run Tryz.prog W = .ok false W := fun d => by simp [Op.equalIn, run_underlying Tryz.underlying47]
  simp only [binOp]
  simp [Op.equal, Op.maxDepth, h 9999]
theorem run_eql_nils (W : World) : (binOp .eql 47 .nilIface .nilIface).run Tryz.prog W = .ok (.bool true) W := by kernel_rfl

set_option maxHeartbeats 1000000 in
theorem Is_nil (t : TypeId) (v : Value) (w : World) :
    Calls Tryz.prog 24 #[.nilIface, .iface t v] w fun e w' => e = .returned (.bool false) ∧ w' = w := by
  have h1 := run_eql_nils
  have h2 := run_eql_nil_r t v
  go_enter Tryz.func24, Tryz.ntmps24
  go_wp2
  go_ret
  exact ⟨rfl, rfl⟩

set_option maxHeartbeats 1000000 in
theorem New_text (w : World) (b : Value) (hb : w.cell? ⟨2, 0, none⟩ = some (.iface 208 b)) :
    Calls Tryz.prog 25 #[.int .i64 3] w fun e w' => e = .returned (.iface 208 b) ∧ w' = w := by
  go_enter Tryz.func25, Tryz.ntmps25
  go_wp2
  go_ret
  exact ⟨rfl, rfl⟩

set_option maxHeartbeats 1000000 in
theorem with_skip (v : Value) (pl : Int) (w : World) :
    Calls Tryz.prog 23 #[v, .string (bsOf []), .int .i64 pl] w fun e w' => e = .returned (.tuple #[v, .nilIface]) ∧ w' = w := by
  have he : (bsOf []).toList = [] := toList_bsOf []
  go_enter Tryz.func23, Tryz.ntmps23
  go_wp2
  go_ret2
  exact ⟨rfl, rfl⟩

/-- A line's instruction, laid behind the others. -/
def WithRet (B : Nat) (v : Value) (qs : List Ins) (i : Ins) (w : World) (e : Ending) (w' : World) : Prop :=
  ∃ v', e = .returned (.tuple #[v', .nilIface]) ∧ w'.ownsRow B 40 5 v' (qs.length + 1) (insCells (qs ++ [i])) ∧ Below B w w'

theorem instr_yes {line : List UInt8} {i : Ins} (h : instrOf line = some i) (w : World) (ht : Tabs w) (hl : line.length ≤ 100000) :
    Calls Tryz.prog 42 #[.string (bsOf line)] w fun e w' => e = .returned (.tuple #[i.v, .bool true]) ∧ Below w.heap.size w w' := by
  refine (instr_any line w ht hl).mono ?_
  rintro e w' ⟨h1, hb⟩
  rcases h1 with ⟨j, hj, he⟩ | ⟨hn, -⟩
  · rw [h] at hj; cases hj
    exact ⟨he, hb⟩
  · rw [h] at hn; cases hn

set_option maxRecDepth 100000 in
set_option maxHeartbeats 2000000 in
theorem with_good (B n c : Nat) (a : Option Addr) (qs : List Ins) (line : List UInt8) (i : Ins) (pl : Int) (w : World) (ht : Tabs w) (h : instrOf line = some i) (hne : line ≠ []) (hl : line.length ≤ 100000) (hq : qs.length < 48) (hn : qs.length = n)
    (hown : w.ownsRow B 40 5 (.slice a n c) n (insCells qs)) (hB : B ≤ w.heap.size) :
    Calls Tryz.prog 23 #[.slice a n c, .string (bsOf line), .int .i64 pl] w (WithRet B (.slice a n c) qs i w) := by
  obtain ⟨iI, hi, hz0, hz1, hz2⟩ := info_parts infoIns
  have HIY := hid (fun W hT => instr_yes h W hT hl)
  have HT := hid ht
  have HO := hid hown
  have HBB := hid hB
  have he : (bsOf line).toList = line := toList_bsOf line
  obtain ⟨x, r, rfl⟩ : ∃ x r, line = x :: r := by
    cases line with
    | nil => exact absurd rfl hne
    | cons x r => exact ⟨x, r, rfl⟩
  have i1 : ((n : Int) == 48) = false := by simp; omega
  have HQ := hid (show n + 1 ≤ maxLen by unfold maxLen; omega)
  have HQ2 := hid (show (n + 1) * 40 ≤ 140737488355328 by omega)
  have HN := hid hn
  obtain ⟨op, ia, ib, ic, iN⟩ := i
  clear ht hown hB hl hq h hne hn
  go_enter Tryz.func23, Tryz.ntmps23
  go_wp2_with (first | (go_at_call 42; (with_reducible refine (HIY.out _ HT.out).mono ?_); rintro e w1 ⟨rfl, hb1⟩; have HB1 := hid hb1; clear hb1) | (at_builtin; go_must (refine append_ins_at rfl (.tmp 31) (.tmp 33) 38 rfl Tryz.underlying38 hi hz0 rfl hz1 hz2 rfl (own_wrote HO.out (Wrote.of_below (bnew HB1.out _) (fun _ => False)) (fun _ _ h => h)) _ _ _ _ _ _ (size_alloc1 _ _) rfl HQ.out HQ2.out (Nat.le_trans HBB.out (bnew HB1.out _).size) ?_; intro v' w' hown' hat' hw'; have HW := hid (And.intro hown' hw'); clear hown' hat' hw')))
  go_ret2
  refine ⟨v', rfl, by rw [HN.out]; exact HW.out.1, ?_⟩
  have h1 := bnew HB1.out (.cells #[.int .i64 op, .int .i64 ia, .int .i64 ib, .int .i64 ic, .int .i64 iN] 40)
  exact (h1.mono HBB.out).trans (HW.out.2.below (Nat.le_trans HBB.out h1.size) fun k hk e => by have := (HO.out.lt k e).1; omega)

end Go.Proofs.YtbobjhadckeieaaGreatDoor
