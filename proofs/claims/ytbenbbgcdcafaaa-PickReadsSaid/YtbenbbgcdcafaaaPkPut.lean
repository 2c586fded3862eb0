/-
  pick.within, pick.Put and the document's Put.
-/
import Derived.Test.YtbenbbgcdcafaaaPkRead
import Derived.Deep.DeepCutAuto
import Derived.Deep.CutBlock
namespace Go.Proofs.Ytbenbbgcdcafaaa
open Go.RowKit
set_option linter.unusedVariables false

def inB (n l m : Int) : Bool := decide (l ≤ n) && decide (n ≤ m)
theorem inB_yes {n l m : Int} (h1 : l ≤ n) (h2 : n ≤ m) : inB n l m = true := by simp [inB, h1, h2]
theorem inB_no {n l m : Int} (h : n < l ∨ m < n) : inB n l m = false := by
  simp only [inB, Bool.and_eq_false_iff, decide_eq_false_iff_not]
  omega
theorem inB_iff {n l m : Int} : inB n l m = true ↔ l ≤ n ∧ n ≤ m := by simp [inB]
set_option maxHeartbeats 1000000 in
theorem within_any (n l m : Int) (w : World) : Calls Try.prog 19 #[.int .i64 n, .int .i64 l, .int .i64 m] w fun e w' => e = .returned (.bool (inB n l m)) ∧ w = w' := by
  by_cases h1 : l ≤ n
  · by_cases h2 : n ≤ m
    · have H := hid (inB_yes h1 h2)
      go_enter Try.func19, Try.ntmps19
      go_wp2
      go_ret
      exact ⟨by rw [H.out]; rfl, by trivial⟩
    · have H := hid (inB_no (l := l) (.inr (Int.not_le.1 h2)))
      go_enter Try.func19, Try.ntmps19
      go_wp2
      go_ret
      exact ⟨by rw [H.out]; rfl, by trivial⟩
  · have H := hid (inB_no (m := m) (.inl (Int.not_le.1 h1)))
    go_enter Try.func19, Try.ntmps19
    go_wp2
    go_ret
    exact ⟨by rw [H.out]; rfl, by trivial⟩

/-- A pick that has a byte; the byte. -/
def Pk.ok (p : Pk) : Bool := inB p.t 0 3 && inB p.d 0 15
def Pk.by (p : Pk) : Nat := p.t.toNat + 16 * p.d.toNat + (if p.a = true then 4 else 0)

/-- The state of the loop: k bytes are laid. -/
structure PutAt (w : World) (ps : List Pk) (g n k : Nat) (wr : World) : Prop where
  own : OwnBy w.heap.size (.slice (some ⟨g, 0, none⟩) n n) ((ps.take k).map Pk.by ++ List.replicate (n - k) 0) wr
  below : Below w.heap.size w wr
  ok : ∀ j p, j < k → ps[j]? = some p → p.ok = true
theorem PutAt.free {w : World} {ps : List Pk} {g n k : Nat} {wr : World} (h : PutAt w ps g n k wr) (hn : ps.length = n) (hk : k < n) : ((ps.take k).map Pk.by ++ List.replicate (n - k) 0)[k]? = some 0 := by
  rw [List.getElem?_append_right (by simp; omega)]
  simp [List.getElem?_replicate]; omega
theorem by_take {ps : List Pk} {n k : Nat} {p : Pk} (hn : ps.length = n) (hk : k < n) (hp : ps[k]? = some p) : ((ps.take k).map Pk.by ++ List.replicate (n - k) 0).set k p.by = (ps.take (k + 1)).map Pk.by ++ List.replicate (n - (k + 1)) 0 := by
  have hl : (List.map Pk.by (ps.take k)).length = k := by simp; omega
  rw [List.set_append, if_neg (by omega), hl, Nat.sub_self, show n - k = (n - (k + 1)) + 1 by omega, List.replicate_succ, List.set_cons_zero, List.take_add_one, hp]
  simp
theorem PutAt.more {w : World} {ps : List Pk} {g n k : Nat} {wr : World} (h : PutAt w ps g n k wr) {p : Pk} (hp : ps[k]? = some p) (hok : p.ok = true) : ∀ j q, j < k + 1 → ps[j]? = some q → q.ok = true := by
  intro j q hj hq
  rcases Nat.lt_or_ge j k with h' | h'
  · exact h.ok j q h' hq
  · obtain rfl : j = k := by omega
    rw [hp] at hq
    cases hq
    exact hok
theorem PutAt.step {w : World} {ps : List Pk} {g n k : Nat} {wr : World} (h : PutAt w ps g n k wr) (hn : ps.length = n) (hk : k < n) {p : Pk} (hp : ps[k]? = some p) (hok : p.ok = true) (hg : w.heap.size ≤ g) {x : Int} (hx : x = (p.by : Int)) (o : Obj) :
    PutAt w ps g n (k + 1) ((wr.setCell ⟨g, k, none⟩ (.int .u8 x)).alloc o) := by
  subst hx
  have h1 := h.own.put k p.by
  rw [by_take hn hk hp] at h1
  exact ⟨h1.below (bnew (bid _) o), bnew (h.below.setCell hg _) o, h.more hp hok⟩
theorem PutAt.step2 {w : World} {ps : List Pk} {g n k : Nat} {wr : World} (h : PutAt w ps g n k wr) (hn : ps.length = n) (hk : k < n) {p : Pk} (hp : ps[k]? = some p) (hok : p.ok = true) (hg : w.heap.size ≤ g) {x y : Int} (y' : Nat) (hy : y = (y' : Int)) (hx : x = (p.by : Int)) (o : Obj) :
    PutAt w ps g n (k + 1) (((wr.setCell ⟨g, k, none⟩ (.int .u8 y)).setCell ⟨g, k, none⟩ (.int .u8 x)).alloc o) := by
  subst hx hy
  have h1 := (h.own.put k y').put k p.by
  rw [List.set_set, by_take hn hk hp] at h1
  exact ⟨h1.below (bnew (bid _) o), bnew ((h.below.setCell hg _).setCell hg _) o, h.more hp hok⟩
theorem or_byte {t d : Int} (b1 : 0 ≤ t) (b2 : t ≤ 3) (b3 : 0 ≤ d) (b4 : d ≤ 15) : bits .or .i64 (d * 16) t = d * 16 + t := by
  obtain ⟨T, rfl⟩ := Int.eq_ofNat_of_zero_le b1
  obtain ⟨D, rfl⟩ := Int.eq_ofNat_of_zero_le b3
  have : ∀ T : Fin 4, ∀ D : Fin 16, bits .or .i64 ((D.1 : Int) * 16) (T.1 : Int) = (D.1 : Int) * 16 + (T.1 : Int) := by decide +kernel
  exact this ⟨T, by omega⟩ ⟨D, by omega⟩
theorem or_four {t d : Int} (b1 : 0 ≤ t) (b2 : t ≤ 3) (b3 : 0 ≤ d) (b4 : d ≤ 15) : bits .or .u8 (d * 16 + t) 4 = d * 16 + t + 4 := by
  obtain ⟨T, rfl⟩ := Int.eq_ofNat_of_zero_le b1
  obtain ⟨D, rfl⟩ := Int.eq_ofNat_of_zero_le b3
  have : ∀ T : Fin 4, ∀ D : Fin 16, bits .or .u8 ((D.1 : Int) * 16 + (T.1 : Int)) 4 = (D.1 : Int) * 16 + (T.1 : Int) + 4 := by decide +kernel
  exact this ⟨T, by omega⟩ ⟨D, by omega⟩
theorem by_val {t d : Int} {a : Bool} (b1 : 0 ≤ t) (b3 : 0 ≤ d) : ((Pk.by ⟨t, a, d⟩ : Nat) : Int) = d * 16 + t + (if a = true then 4 else 0) := by
  unfold Pk.by
  dsimp only
  split <;> omega
theorem by_lt {p : Pk} (h : p.ok = true) : p.by < 256 := by
  unfold Pk.ok at h
  rw [Bool.and_eq_true, inB_iff, inB_iff] at h
  unfold Pk.by
  split <;> omega
theorem all_no {ps : List Pk} {k : Nat} {p : Pk} (hp : ps[k]? = some p) (hok : p.ok = false) : ps.all Pk.ok = false := by
  rw [List.all_eq_false]
  exact ⟨p, List.mem_of_getElem? hp, by simp [hok]⟩
theorem PutAt.all {w : World} {ps : List Pk} {g n : Nat} {wr : World} (h : PutAt w ps g n n wr) (hn : ps.length = n) : ps.all Pk.ok = true := by
  rw [List.all_eq_true]
  intro p hp
  obtain ⟨j, hj, rfl⟩ := List.mem_iff_getElem.1 hp
  exact h.ok j _ (by omega) (List.getElem?_eq_getElem hj)
/-- What is handed back. -/
def PutRet (ps : List Pk) (w : World) (e : Ending) (w' : World) : Prop :=
  ((ps.all Pk.ok = true ∧ ∃ v, e = .returned (.tuple #[v, .bool true]) ∧ OwnBy w.heap.size v (ps.map Pk.by) w') ∨ (ps.all Pk.ok = false ∧ e = .returned (.tuple #[.slice none 0 0, .bool false]))) ∧ Below w.heap.size w w'

set_option maxHeartbeats 4000000 in
theorem Put_any (a : Option Addr) (len cap : Nat) (ps : List Pk) (w : World) (hr : PkRow w a len ps) (hl : len ≤ 1000) :
    Calls Try.prog 12 #[.slice a len cap] w (PutRet ps w) := by
  obtain ⟨i0, hi, hz0, hz1, hz2⟩ := info_parts infoBy
  have E1 : Hid ((len : Int) = ((len : Nat) : Int)) := hid rfl
  have E2 : Hid (i0.bytes * len ≤ 281474976710656) := hid (by rw [hz2]; omega)
  have E3 : Hid (len ≤ maxLen) := hid (by unfold maxLen; omega)
  have HR := hid hr
  clear hr
  go_enter Try.func12, Try.ntmps12
  go_wp2_with (at_make; refine wpList_make_full _ rfl _ _ 22 rfl w.heap.size 5 i0 (.int .u8 0) 1 Try.underlying22 hi hz0 hz1 .i64 .i64 _ _ len rfl rfl E1.out E1.out E2.out E3.out (Nat.le_refl _) ?_; intro w1 hown hg1; have HO := hid (OwnBy.made hown); clear hown)
  have HS : Hid (PutAt w ps w.heap.size len 0 w1) := hid ⟨by simpa using HO.out, (Below.refl _ _).grown hg1 (Nat.le_refl _) (by simp), fun j p h => by omega⟩
  clear HO hg1
  go_loopw [12] (fun i wr => ∃ k : Nat, k ≤ len ∧ i = .int .i64 k ∧ PutAt w ps w.heap.size len k wr) (fun i _ => len - (intOf i).toNat)
  case atStart => exact ⟨0, Nat.zero_le _, rfl, HS.out⟩
  case round =>
    clear HS
    obtain ⟨k, hk, rfl, hs⟩ := hrel
    have HS := hid hs
    clear hs
    by_cases hlt : k < len
    · obtain ⟨b, off, rfl, hbl, hcell⟩ := HR.out.at (by omega)
      have hc := HR.out.cnt
      have hp : ps[k]? = some ps[k] := List.getElem?_eq_getElem (by omega)
      have HP := hid hp
      obtain ⟨x0, x1, x2⟩ := (hcell k _ hp).keep (HS.out.below.block b hbl)
      generalize ps[k] = p at *
      clear hcell hp hc
      obtain ⟨t, ab, d⟩ := p
      dsimp only at x0 x1 x2
      cases ht : inB t 0 3
      · go_wp2_with (go_at_call 19; (with_reducible refine (within_any _ _ _ _).mono ?_); rintro e w' ⟨rfl, rfl⟩)
        go_ret2
        exact ⟨.inr ⟨all_no HP.out (by simp [Pk.ok, ht]), rfl⟩, bnew HS.out.below _⟩
      · have b0 := inB_iff.1 ht
        obtain ⟨b1, b2⟩ := b0
        cases hd : inB d 0 15
        · go_wp2_with (go_at_call 19; (with_reducible refine (within_any _ _ _ _).mono ?_); rintro e w' ⟨rfl, rfl⟩)
          go_ret2
          exact ⟨.inr ⟨all_no HP.out (by simp [Pk.ok, hd]), rfl⟩, bnew HS.out.below _⟩
        · have b0 := inB_iff.1 hd
          obtain ⟨b3, b4⟩ := b0
          have fz := HS.out.own.frozen
          have hgl : w.heap.size < wr.heap.size := (HS.out.own.old rfl).2
          have z0 := HS.out.own.at0 (k := k) (HS.out.free HR.out.cnt hlt)
          have hok : Pk.ok ⟨t, ab, d⟩ = true := by simp [Pk.ok, ht, hd]
          have HOK := hid hok
          have o1 := or_byte b1 b2 b3 b4
          have o2 := or_four b1 b2 b3 b4
          have HV := hid (by_val (a := ab) b1 b3)
          clear hok
          cases ab
          · go_wp2_with (go_at_call 19; (with_reducible refine (within_any _ _ _ _).mono ?_); rintro e w' ⟨rfl, rfl⟩)
            go_roundw
            case rel => exact ⟨k + 1, by omega, by go_num, HS.out.step HR.out.cnt hlt HP.out HOK.out (Nat.le_refl _) (by rw [HV.out]; simp) _⟩
            case measure => simp [intOf]; omega
          · go_wp2_with (go_at_call 19; (with_reducible refine (within_any _ _ _ _).mono ?_); rintro e w' ⟨rfl, rfl⟩)
            go_roundw
            case rel => exact ⟨k + 1, by omega, by go_num, HS.out.step2 HR.out.cnt hlt HP.out HOK.out (Nat.le_refl _) (d * 16 + t).toNat (by omega) (by rw [HV.out]; simp) _⟩
            case measure => simp [intOf]; omega
    · obtain rfl : k = len := by omega
      clear hlt hk
      go_wp2
      go_ret2
      exact ⟨.inl ⟨HS.out.all HR.out.cnt, _, rfl, by have := HS.out.own; rw [Nat.sub_self, List.take_of_length_le (by rw [HR.out.cnt]; exact Nat.le_refl _)] at this; simpa using this⟩, HS.out.below⟩

/-- The state of the loop of the document's Put. -/
structure RPutAt (w : World) (ps : List Pk) (k : Nat) (v : Value) (wr : World) : Prop where
  own : OwnBy w.heap.size v ((ps.take k).map Pk.by) wr
  below : Below w.heap.size w wr
  ok : ∀ j p, j < k → ps[j]? = some p → p.ok = true
theorem RPutAt.step {w wr w' : World} {ps : List Pk} {n k : Nat} {v v' : Value} (h : RPutAt w ps k v wr) (hn : ps.length = n) (hk : k < n) {p : Pk} (hp : ps[k]? = some p) (hok : p.ok = true) {o : Obj} (h' : OwnBy w.heap.size v' ((ps.take k).map Pk.by ++ [p.by]) w') (hw : Wrote (fun b => v.ownBlock = some b) (wr.alloc o) w') :
    RPutAt w ps (k + 1) v' w' := by
  refine ⟨?_, (bnew h.below o).trans (hw.below (bnew h.below o).size fun j hj e => ?_), fun j q hj hq => ?_⟩
  · rw [List.take_add_one, hp, List.map_append]
    exact h'
  · have := (h.own.old e).1
    omega
  · rcases Nat.lt_or_ge j k with h' | h'
    · exact h.ok j q h' hq
    · obtain rfl : j = k := by omega
      rw [hp] at hq
      cases hq
      exact hok
theorem RPutAt.all {w : World} {ps : List Pk} {n : Nat} {v : Value} {wr : World} (h : RPutAt w ps n v wr) (hn : ps.length = n) : ps.all Pk.ok = true := by
  rw [List.all_eq_true]
  intro p hp
  obtain ⟨j, hj, rfl⟩ := List.mem_iff_getElem.1 hp
  exact h.ok j _ (by omega) (List.getElem?_eq_getElem hj)

set_option maxHeartbeats 4000000 in
theorem RPut_any (a : Option Addr) (len cap : Nat) (ps : List Pk) (w : World) (hr : PkRow w a len ps) (hl : len ≤ 1000) :
    Calls Try.prog 13 #[.slice a len cap] w (PutRet ps w) := by
  obtain ⟨i0, hi, hz0, hz1, hz2⟩ := info_parts infoBy
  have HR := hid hr
  clear hr
  go_enter Try.func13, Try.ntmps13
  go_wp2
  go_loopw [4, 5] (fun v i wr => ∃ k : Nat, k ≤ len ∧ i = .int .i64 k ∧ RPutAt w ps k v wr) (fun _ i _ => len - (intOf i).toNat)
  case atStart => exact ⟨0, Nat.zero_le _, rfl, by simpa using OwnBy.nil _ _, Below.refl _ _, fun j p h => by omega⟩
  case round =>
    obtain ⟨k, hk, rfl, hs⟩ := hrel
    have HS := hid hs
    clear hs
    by_cases hlt : k < len
    · obtain ⟨b, off, rfl, hbl, hcell⟩ := HR.out.at (by omega)
      have hc := HR.out.cnt
      have hp : ps[k]? = some ps[k] := List.getElem?_eq_getElem (by omega)
      have HP := hid hp
      obtain ⟨x0, x1, x2⟩ := (hcell k _ hp).keep (HS.out.below.block b hbl)
      generalize ps[k] = p at *
      clear hcell hp hc
      obtain ⟨t, ab, d⟩ := p
      dsimp only at x0 x1 x2
      by_cases h1 : t < 0
      · go_wp2
        go_ret2
        exact ⟨.inr ⟨all_no HP.out (by simp [Pk.ok, inB_no (l := 0) (m := 3) (.inl h1)]), rfl⟩, bnew HS.out.below _⟩
      · by_cases h2 : 3 < t
        · go_wp2
          go_ret2
          exact ⟨.inr ⟨all_no HP.out (by simp [Pk.ok, inB_no (l := 0) (m := 3) (.inr h2)]), rfl⟩, bnew HS.out.below _⟩
        · by_cases h3 : d < 0
          · go_wp2
            go_ret2
            exact ⟨.inr ⟨all_no HP.out (by simp [Pk.ok, inB_no (l := 0) (m := 15) (.inl h3)]), rfl⟩, bnew HS.out.below _⟩
          · by_cases h4 : 15 < d
            · go_wp2
              go_ret2
              exact ⟨.inr ⟨all_no HP.out (by simp [Pk.ok, inB_no (l := 0) (m := 15) (.inr h4)]), rfl⟩, bnew HS.out.below _⟩
            · have b1 : 0 ≤ t := by omega
              have b2 : t ≤ 3 := by omega
              have b3 : 0 ≤ d := by omega
              have b4 : d ≤ 15 := by omega
              have HOK : Hid (Pk.ok ⟨t, ab, d⟩ = true) := hid (by simp [Pk.ok, inB_yes b1 b2, inB_yes b3 b4])
              have HV := hid (by_val (a := ab) b1 b3)
              have h6 : ((ps.take k).map Pk.by).length ≤ 1000000 := by simp; omega
              have HO1 := hid (HS.out.own.below (bnew (bid wr) (.cells #[.int .i64 t, .bool ab, .int .i64 d] 32)))
              have HB1 := hid (bnew HS.out.below (.cells #[.int .i64 t, .bool ab, .int .i64 d] 32)).size
              cases ab
              · have HE : Hid (#[Value.int .u8 (t + 16 * d)] = #[.int .u8 ((Pk.by ⟨t, false, d⟩ : Nat) : Int)]) := hid (by rw [HV.out, show t + 16 * d = d * 16 + t + (if false = true then 4 else 0) by simp; omega])
                go_wp2_with (at_builtin; refine wpList_append_by1 (W := wr.alloc _) rfl (.tmp 46) (.tmp 49) 22 rfl Try.underlying22 hi hz0 rfl hz1 hz2 rfl HO1.out (Pk.by ⟨t, false, d⟩) #[.int .u8 (t + 16 * d)] HE.out (size_alloc1 _ _) rfl h6 HB1.out ?_; intro v' w' hown' hat hg'; have HA := hid hown'; have HG := hid hg'; clear hown' hat hg')
                go_roundw
                case rel => exact ⟨k + 1, by omega, by go_num, HS.out.step HR.out.cnt hlt HP.out HOK.out HA.out HG.out⟩
                case measure => simp [intOf]; omega
              · have HE : Hid (#[Value.int .u8 (t + 16 * d + 4)] = #[.int .u8 ((Pk.by ⟨t, true, d⟩ : Nat) : Int)]) := hid (by rw [HV.out, show t + 16 * d + 4 = d * 16 + t + (if true = true then 4 else 0) by simp; omega])
                go_wp2_with (at_builtin; refine wpList_append_by1 (W := wr.alloc _) rfl (.tmp 46) (.tmp 49) 22 rfl Try.underlying22 hi hz0 rfl hz1 hz2 rfl HO1.out (Pk.by ⟨t, true, d⟩) #[.int .u8 (t + 16 * d + 4)] HE.out (size_alloc1 _ _) rfl h6 HB1.out ?_; intro v' w' hown' hat hg'; have HA := hid hown'; have HG := hid hg'; clear hown' hat hg')
                go_roundw
                case rel => exact ⟨k + 1, by omega, by go_num, HS.out.step HR.out.cnt hlt HP.out HOK.out HA.out HG.out⟩
                case measure => simp [intOf]; omega
    · obtain rfl : k = len := by omega
      clear hlt hk
      go_wp2
      go_ret2
      exact ⟨.inl ⟨HS.out.all HR.out.cnt, _, rfl, by have := HS.out.own; rw [List.take_of_length_le (by rw [HR.out.cnt]; exact Nat.le_refl _)] at this; exact this⟩, HS.out.below⟩

end Go.Proofs.Ytbenbbgcdcafaaa
