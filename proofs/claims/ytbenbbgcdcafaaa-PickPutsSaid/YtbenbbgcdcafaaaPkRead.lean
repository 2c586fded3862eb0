/-
  pick.Read and the document's Read; Same.
-/
import Derived.Test.YtbenbbgcdcafaaaPk
import Derived.Laws.BitsAllLaws
import Derived.Laws.StructEq
namespace Go.Proofs.Ytbenbbgcdcafaaa
open Go.RowKit
set_option linter.unusedVariables false

/-- The pick that a byte is. -/
def readF (b : Nat) : Pk := ⟨(b : Int) % 4, decide (b / 4 % 2 = 1), (b : Int) / 16⟩
def PkRet (ps : List Pk) (w : World) (e : Ending) (w' : World) : Prop := ∃ v, e = .returned v ∧ OwnPk w.heap.size v ps w' ∧ Below w.heap.size w w'

set_option maxRecDepth 100000 in
theorem bits_three : ∀ b, b < 256 → bits .and .u8 ((b : Nat) : Int) 3 = (b : Int) % 4 := by
  intro b hb
  rw [show (3 : Int) = ((3 : Nat) : Int) from rfl, u8_and_nat b 3 hb (by decide)]
  have : ∀ b : Fin 256, b.1 &&& 3 = b.1 % 4 := by decide
  have h := this ⟨b, hb⟩
  dsimp only at h
  rw [h]
  rfl
set_option maxRecDepth 100000 in
theorem bits_four : ∀ b, b < 256 → ((bits .and .u8 ((b : Nat) : Int) 4 != 0) = decide (b / 4 % 2 = 1)) := by
  intro b hb
  rw [show (4 : Int) = ((4 : Nat) : Int) from rfl, u8_and_nat b 4 hb (by decide)]
  have : ∀ b : Fin 256, (((b.1 &&& 4 : Nat) : Int) != 0) = decide (b.1 / 4 % 2 = 1) := by decide +kernel
  exact this ⟨b, hb⟩

/-- The state of the loop: k picks are laid. -/
structure ReadAt (w : World) (bs : List Nat) (g n k : Nat) (wr : World) : Prop where
  own : OwnPk w.heap.size (.slice (some ⟨g, 0, none⟩) n n) ((bs.take k).map readF ++ List.replicate (n - k) Pk.zero) wr
  below : Below w.heap.size w wr

theorem readF_at (bs : List Nat) {k : Nat} (h : k < bs.length) : (bs.take (k + 1)).map readF = (bs.take k).map readF ++ [readF (bs.getD k 0)] := by
  rw [List.take_succ_eq_append_getElem h, List.map_append, List.getD_eq_getElem?_getD, List.getElem?_eq_getElem h]
  rfl
theorem ReadAt.step {w wr : World} {bs : List Nat} {g n k : Nat} (h : ReadAt w bs g n k wr) (hn : bs.length = n) (hk : k < n) (p : Pk) (hp : p = readF (bs.getD k 0)) (hg : w.heap.size ≤ g) :
    ReadAt w bs g n (k + 1) (((wr.setCell ⟨g, k * 3, none⟩ (.int .i64 p.t)).setCell ⟨g, k * 3 + 1, none⟩ (.bool p.a)).setCell ⟨g, k * 3 + 2, none⟩ (.int .i64 p.d)) := by
  have h1 := h.own.put k hk p
  refine ⟨?_, ((h.below.setCell hg _).setCell hg _).setCell hg _⟩
  have e : ((bs.take k).map readF ++ List.replicate (n - k) Pk.zero).set k p = (bs.take (k + 1)).map readF ++ List.replicate (n - (k + 1)) Pk.zero := by
    have hl : (List.map readF (bs.take k)).length = k := by simp; omega
    rw [List.set_append, if_neg (by omega), readF_at bs (by omega), ← hp]
    rw [hl, Nat.sub_self, show n - k = (n - (k + 1)) + 1 by omega, List.replicate_succ, List.set_cons_zero]
    simp
  rw [← e]
  exact h1

set_option maxHeartbeats 2000000 in
theorem Read_any (a : Option Addr) (len cap : Nat) (bs : List Nat) (w : World) (hr : ByRow w a len bs) (hl : len ≤ 1000) :
    Calls Try.prog 9 #[.slice a len cap] w (PkRet (bs.map readF) w) := by
  obtain ⟨i0, hi, hz0, hz1, hz2⟩ := info_parts infoPk
  have E1 : Hid ((len : Int) = ((len : Nat) : Int)) := hid rfl
  have E2 : Hid (i0.bytes * len ≤ 281474976710656) := hid (by rw [hz2]; omega)
  have E3 : Hid (len ≤ maxLen) := hid (by unfold maxLen; omega)
  have HR := hid hr
  clear hr
  go_enter Try.func9, Try.ntmps9
  go_wp2_with (at_make; refine wpList_make_full _ rfl _ _ 24 rfl w.heap.size 32 i0 (.agg #[.int .i64 0, .bool false, .int .i64 0]) 3 Try.underlying24 hi hz0 hz1 .i64 .i64 _ _ len rfl rfl E1.out E1.out E2.out E3.out (Nat.le_refl _) ?_; intro w1 hown hg1; have HO := hid (OwnPk.made hown); clear hown)
  have HS : Hid (ReadAt w bs w.heap.size len 0 w1) := hid ⟨by simpa using HO.out, (Below.refl _ _).grown hg1 (Nat.le_refl _) (by simp)⟩
  clear HO hg1
  go_loopw [11] (fun i wr => ∃ k : Nat, k ≤ len ∧ i = .int .i64 k ∧ ReadAt w bs w.heap.size len k wr) (fun i _ => len - (intOf i).toNat)
  case atStart => exact ⟨0, Nat.zero_le _, rfl, HS.out⟩
  case round =>
    clear HS
    obtain ⟨k, hk, rfl, hs⟩ := hrel
    have HS := hid hs
    clear hs
    by_cases hlt : k < len
    · obtain ⟨b, off, rfl, hbl, hcell⟩ := HR.out.at (by omega)
      have c0 := (HS.out.below.cell (p := ⟨b, off + k, none⟩) hbl).trans (hcell k hlt)
      have hb := HR.out.small hlt
      generalize hx : bs.getD k 0 = x at c0 hb
      have HX := hid hx
      clear hx
      clear hcell
      have q1 := bits_three x hb
      have q2 := bits_four x hb
      obtain ⟨z0, z1, z2⟩ := HS.out.own.at (k := k) (p := Pk.zero) (by
        have := HR.out.cnt
        rw [List.getElem?_append_right (by simp; omega)]
        simp [List.getElem?_replicate]; omega)
      have fz := HS.out.own.frozen
      go_wp2
      go_roundw
      case rel => exact ⟨k + 1, by omega, by go_num, HS.out.step HR.out.cnt hlt (readF x) (by rw [HX.out]) (Nat.le_refl _)⟩
      case measure => simp [intOf]; omega
    · obtain rfl : k = len := by omega
      clear hlt hk
      go_wp2
      go_ret
      exact ⟨_, rfl, by have := HS.out.own; rw [Nat.sub_self, List.take_of_length_le (by rw [HR.out.cnt]; exact Nat.le_refl _)] at this; simpa using this, HS.out.below⟩

/-- The state of the loop of the document's Read. -/
structure RReadAt (w : World) (bs : List Nat) (k : Nat) (v : Value) (wr : World) : Prop where
  own : OwnPk w.heap.size v ((bs.take k).map readF) wr
  below : Below w.heap.size w wr
theorem mod_two (x : Nat) : (((x : Int) / 4 % 2 == 1) = decide (x / 4 % 2 = 1)) := by
  rw [Bool.eq_iff_iff]
  simp
  omega
theorem RReadAt.step {w wr w' : World} {bs : List Nat} {n k : Nat} {v v' : Value} (h : RReadAt w bs k v wr) (hn : bs.length = n) (hk : k < n) {p : Pk} (hp : p = readF (bs.getD k 0)) (h' : OwnPk w.heap.size v' ((bs.take k).map readF ++ [p]) w') (hw : Wrote (fun b => v.ownBlock = some b) wr w') :
    RReadAt w bs (k + 1) v' w' := by
  refine ⟨by rw [readF_at bs (by omega), ← hp]; exact h', h.below.trans (hw.below h.below.size fun j hj e => ?_)⟩
  have := (h.own.old e).1
  omega

set_option maxHeartbeats 2000000 in
theorem RRead_any (a : Option Addr) (len cap : Nat) (bs : List Nat) (w : World) (hr : ByRow w a len bs) (hl : len ≤ 1000) :
    Calls Try.prog 11 #[.slice a len cap] w (PkRet (bs.map readF) w) := by
  obtain ⟨i0, hi, hz0, hz1, hz2⟩ := info_parts infoPk
  have HR := hid hr
  clear hr
  go_enter Try.func11, Try.ntmps11
  go_wp2
  go_loopw [3, 4] (fun v i wr => ∃ k : Nat, k ≤ len ∧ i = .int .i64 k ∧ RReadAt w bs k v wr) (fun _ i _ => len - (intOf i).toNat)
  case atStart => exact ⟨0, Nat.zero_le _, rfl, ⟨by simpa using OwnPk.nil _ _, Below.refl _ _⟩⟩
  case round =>
    obtain ⟨k, hk, rfl, hs⟩ := hrel
    have HS := hid hs
    clear hs
    by_cases hlt : k < len
    · obtain ⟨b, off, rfl, hbl, hcell⟩ := HR.out.at (by omega)
      have c0 := (HS.out.below.cell (p := ⟨b, off + k, none⟩) hbl).trans (hcell k hlt)
      have hb := HR.out.small hlt
      generalize hx : bs.getD k 0 = x at c0 hb
      have HX := hid hx
      clear hx
      clear hcell
      have q2 := mod_two x
      have h6 : ((bs.take k).map readF).length ≤ 1000000 := by simp; omega
      go_wp2_with (at_builtin; refine wpList_append_pk1 rfl (.tmp 17) (.tmp 27) 24 rfl Try.underlying24 hi hz0 rfl hz1 hz2 rfl HS.out.own (readF x) _ rfl rfl rfl h6 HS.out.below.size ?_; intro v' w' hown' hat hg'; have HA := hid hown'; have HG := hid hg'; clear hown' hat hg')
      go_roundw
      case rel => exact ⟨k + 1, by omega, by go_num, HS.out.step HR.out.cnt hlt (by rw [HX.out]) HA.out HG.out⟩
      case measure => simp [intOf]; omega
    · obtain rfl : k = len := by omega
      clear hlt hk
      go_wp2
      go_ret
      exact ⟨_, rfl, by have := HS.out.own; rw [List.take_of_length_le (by rw [HR.out.cnt]; exact Nat.le_refl _)] at this; exact this, HS.out.below⟩

def sameB (p q : Pk) : Bool := (p.t == q.t) && (p.a == q.a) && (p.d == q.d)
theorem sameB_self (p : Pk) : sameB p p = true := by simp [sameB]
theorem neq_pick (a : Int) (b : Bool) (d : Int) (a' : Int) (b' : Bool) (d' : Int) (w : World) :
    (binOp .neq 32 (.agg #[.int .i64 a, .bool b, .int .i64 d]) (.agg #[.int .i64 a', .bool b', .int .i64 d'])).run Try.prog w = .ok (.bool (!sameB ⟨a, b, d⟩ ⟨a', b', d'⟩)) w := by
  have u3 := Try.underlying3
  have a3 := Try.isAgg3
  have z3 := Try.sizeOf3
  have u4 := Try.underlying4
  have a4 := Try.isAgg4
  have z4 := Try.sizeOf4
  have hS : Try.prog.underlying 32 = some (.struct (Try.prog.fieldsOf 32)) := by kernel_rfl
  have hp : Try.prog.stoodInHeld 32 = false := by kernel_rfl
  rw [run_neq_struct, show (10000 : Nat) = 9999 + 1 from rfl, run_equalIn_agg w 9999 32 _ _ hS hp]
  simp only [Program.fieldsOf, Try.underlying32]
  go_simp
  unfold sameB
  by_cases h1 : a = a' <;> by_cases h2 : b = b' <;> by_cases h4 : d = d' <;> simp [h1, h2, h4]

set_option maxHeartbeats 2000000 in
theorem Same_yes (a b : Option Addr) (len c c' : Nat) (ps : List Pk) (w : World) (ha : PkRow w a len ps) (hb : PkRow w b len ps) (hl : len ≤ 100000) :
    Calls Try.prog 10 #[.slice a len c, .slice b len c'] w fun e w' => e = .returned (.bool true) ∧ Below w.heap.size w w' := by
  have HA := hid ha
  have HB := hid hb
  clear ha hb
  have hgd : Try.prog.eqGuardType Try.prog.depth 32 = false := by kernel_rfl
  have heq := neq_pick
  have hsm := sameB_self
  go_enter Try.func10, Try.ntmps10
  go_wp2
  go_loopw [5] (fun i wr => ∃ k : Nat, k ≤ len ∧ i = .int .i64 k ∧ Below w.heap.size w wr) (fun i _ => len - (intOf i).toNat)
  case atStart => exact ⟨0, Nat.zero_le _, rfl, Below.refl _ _⟩
  case round =>
    obtain ⟨k, hk, rfl, hs⟩ := hrel
    have HS := hid hs
    clear hs
    by_cases hlt : k < len
    · obtain ⟨x, xo, rfl, hx1, hx2⟩ := HA.out.at (by omega)
      obtain ⟨y, yo, rfl, hy1, hy2⟩ := HB.out.at (by omega)
      have hc := HA.out.cnt
      have hp : ps[k]? = some ps[k] := List.getElem?_eq_getElem (by omega)
      obtain ⟨x0, x1, x2⟩ := (hx2 k _ hp).keep (HS.out.block x hx1)
      obtain ⟨y0, y1, y2⟩ := (hy2 k _ hp).keep (HS.out.block y hy1)
      generalize ps[k] = p at *
      clear hx2 hy2 hp hc
      go_wp2
      go_quiet (fail)
      go_wp2
      go_roundw
      case rel => exact ⟨k + 1, by omega, by go_num, bdrewN HS.out⟩
      case measure => simp [intOf]; omega
    · go_wp2
      go_ret
      exact ⟨rfl, HS.out⟩

end Go.Proofs.Ytbenbbgcdcafaaa
