/-
  Trail, at a chain. Put; a chain grows by one. Nothing is nothing: each call at nil.
-/
import Derived.Test.YtblalejegjieaaaGreatDoorWhere
namespace Go.Proofs.YtblalejegjieaaaGreatDoor
open Go.RowKit

theorem info_i64 : ∃ i, Tryz.prog.info? 3 = some i ∧ i.zero = some (.int .i64 0) ∧ i.size = 1 ∧ i.bytes = 8 :=
  info_parts (by kernel_rfl)

set_option maxRecDepth 100000 in
set_option maxHeartbeats 4000000 in
theorem Trail_chain {w : World} {ks : List (Nat × Addr)} (hc : Chain w ks) (hg : ErrType w) (pl : Nat → Int) (hp : ∀ j, j + 1 < ks.length → ∃ b t x, ks[j]? = some (76, ⟨b, 0, none⟩) ∧ AtAt w b t (pl j) x) :
    Calls Tryz.prog 16 #[errV (ks.getD 0 k0).1 (ks.getD 0 k0).2] w fun e w' => ∃ lv, e = .returned lv ∧ w'.ownsRow w.heap.size 3 1 lv (ks.length - 1) (((List.range (ks.length - 1)).map pl).map (Value.int .i64)) ∧ Below w.heap.size w w' := by
  have HP := hid (places_chain hc hg)
  have HA := hid hp
  have hfew := hc.few
  obtain ⟨i0, hi0, hz0, hz1, hz2⟩ := info_i64
  clear hc hg hp
  generalize (ks.getD 0 k0).1 = T0 at HP ⊢
  generalize (ks.getD 0 k0).2 = b0 at HP ⊢
  go_enter Tryz.func16, Tryz.ntmps16
  go_wp2_with (go_at_call 33; refine HP.out.mono ?_; rintro e w1 ⟨lv, rfl, hr, hb1⟩; obtain ⟨a, cap, rfl⟩ : ∃ a cap, lv = .slice a (ks.length - 1) cap := (by (rcases row_form hr with ⟨h, h'⟩ | ⟨g, cap, h⟩; exact ⟨none, 0, by rw [h, h']⟩; exact ⟨_, cap, h⟩)); have HB1 := hid hb1; have HR1 := hid hr; clear hr hb1)
  generalize hm : ks.length - 1 = m at HR1 ⊢
  have hm1 : m ≤ 1000 := by omega
  go_loopw [3, 9] (fun lv i wr => ∃ (j : Nat) (v : Value), j ≤ m ∧ i = .int .i64 j ∧ v = lv ∧ wr.ownsRow w1.heap.size 3 1 v j (((List.range j).map pl).map (Value.int .i64)) ∧ Below w1.heap.size w1 wr) (fun _ i _ => m - (intOf i).toNat)
  case atStart => exact ⟨0, _, by omega, rfl, rfl, World.ownsRow_nil _ _ _ _, bid w1⟩
  case round =>
    obtain ⟨j, v, hj, rfl, rfl, hrow, hb2⟩ := hrel
    have HB2 := hid hb2
    have HR := hid hrow
    clear hrow
    by_cases hlt : j < m
    · obtain ⟨b, t, x, hk, hat⟩ := HA.out j (by omega)
      obtain ⟨g, hga⟩ : ∃ g, a = some ⟨g, 0, none⟩ := by
        rcases row_form HR1.out with ⟨_, h⟩ | ⟨g, cap, h⟩
        · omega
        · exact ⟨g, (Value.slice.inj h).1⟩
      subst hga
      have hlen : (ks.take m).length = m := by rw [List.length_take]; omega
      have h1 : w1.ownsRow w.heap.size 76 1 (.slice (some ⟨g, 0, none⟩) m cap) m ((ks.take m).map ptrOf) := HR1.out
      have cp := ptr_cell (j := j) (x := (76, ⟨b, 0, none⟩)) (ks := ks.take m) (by rw [hlen]; exact h1) (by rw [List.getElem?_take, if_pos hlt]; exact hk)
      have hgl : g < w1.heap.size := by obtain ⟨_, cs, tt, h⟩ := ownsRow_block h1 rfl; exact lt_of_block h
      have cj := (hb2.cell (p := ⟨g, j, none⟩) hgl).trans cp
      obtain ⟨c1, c2, c3⟩ := ((hat.kept (Wrote.of_below HB1.out (fun _ => False)) fun h => h).kept (Wrote.of_below hb2 (fun _ => False)) fun h => h).facts
      have i0' : (0 : Int) ≤ (j : Int) := by omega
      have i1 : (j : Int) < ((m : Nat) : Int) := by omega
      have E1 : Hid (j + 1 ≤ maxLen) := hid (by unfold maxLen; omega)
      have E2 : Hid ((j + 1) * 8 ≤ 140737488355328) := hid (by omega)
      have HLT := hid hlt
      clear hlen h1 cp hgl hb2 hk hat hlt hm
      go_wp2_with (at_builtin; refine wpList_append_own_at _ rfl _ _ 31 rfl w1.heap.size 3 i0 (.int .i64 0) 1 8 Tryz.underlying31 hi0 hz0 hz1 hz2 rfl (by decide) v j _ rfl (ownsRow_kept HR.out (Wrote.of_below (bnew (bid wr) _) (fun _ => False)) (fun _ _ h => h)) ⟨wr.heap.size, 0, none⟩ 1 1 [.int .i64 (pl j)] rfl rfl (cell_one_new _ _ _) (by simp [Value.oneCell']) E1.out E2.out (Nat.le_trans HB2.out.size (bnew (bid wr) _).size) ?_; intro v5 w5 hown5 hg5 hn5 hat5; have HO5 := hid (And.intro hown5 hg5); clear hown5 hg5 hn5 hat5)
      go_roundw
      case rel =>
        have hl := HLT.out
        refine ⟨j + 1, v5, by omega, by go_num, rfl, ?_, ?_⟩
        · rw [List.range_succ, List.map_append, List.map_append]
          exact HO5.out.1
        · have hw : Wrote (fun q => w1.heap.size ≤ q) wr w5 := ((Wrote.refl _ wr).alloc _).grown HO5.out.2 (fun q e _ => (ownsRow_block HR.out e).1)
          exact HB2.out.trans (hw.below HB2.out.size (fun q hq e => by have : w1.heap.size ≤ q := e; omega))
      case measure => have := HLT.out; simp [intOf]; omega
    · have hjn : j = m := by omega
      clear hlt
      go_wp2_with fail
      go_ret
      refine ⟨v, rfl, ?_, bthen HB1.out HB2.out⟩
      have h := ownsRow_lower HR.out HB1.out.size
      rw [hjn, ← hm] at h
      exact h

end Go.Proofs.YtblalejegjieaaaGreatDoor

namespace Go.Proofs.YtblalejegjieaaaGreatDoor
open Go.RowKit

theorem Put_nil (t p : Int) (w : World) :
    Calls Tryz.prog 40 #[.nilIface, .int .i64 t, .int .i64 p] w fun e w' => e = .returned .nilIface ∧ w' = w := by
  go_enter Tryz.func40, Tryz.ntmps40
  go_wp2
  go_ret
  exact ⟨rfl, rfl⟩

theorem Put_err (T : Nat) (b : Addr) (t p : Int) (w : World) :
    Calls Tryz.prog 40 #[errV T b, .int .i64 t, .int .i64 p] w fun e w' => e = .returned (errV 76 ⟨w.heap.size, 0, none⟩) ∧ w' = w.alloc (.cells #[.int .i64 t, .int .i64 p, errV T b] 75) := by
  have hq := run_eql_nil T (.pointer (some b))
  go_enter Tryz.func40, Tryz.ntmps40
  go_wp2
  go_ret
  exact ⟨rfl, rfl⟩

/-- An At around a chain is a chain. -/
theorem Chain.put {w : World} {ks : List (Nat × Addr)} (h : Chain w ks) (hf : ks.length < 1000) (t p : Int) :
    Chain (w.alloc (.cells #[.int .i64 t, .int .i64 p, errV (ks.getD 0 k0).1 (ks.getD 0 k0).2] 75)) ((76, ⟨w.heap.size, 0, none⟩) :: ks) := by
  have h' := h.below (bnew (bid w) (.cells #[.int .i64 t, .int .i64 p, errV (ks.getD 0 k0).1 (ks.getD 0 k0).2] 75))
  have hfull := h.full
  refine ⟨by simp, List.nodup_cons.2 ⟨fun hm => ?_, h.apart⟩, by simp; omega, fun k hk => ?_, fun k hk => ?_⟩
  · obtain ⟨c, tt, hb⟩ := (h.at _ hm).block
    have : w.heap.size < w.heap.size := lt_of_block hb
    omega
  · cases k with
    | zero => exact ⟨w.heap.size, t, p, rfl, heap_alloc_new _ _⟩
    | succ k =>
      simp only [List.length_cons] at hk
      obtain ⟨b, t', p', h1, h2⟩ := h'.more k (by omega)
      exact ⟨b, t', p', by simpa using h1, by simpa using h2⟩
  · cases k with
    | zero => simp only [List.length_cons] at hk; omega
    | succ k =>
      simp only [List.length_cons] at hk
      obtain ⟨b, h1, h2⟩ := h'.last k (by omega)
      exact ⟨b, by simpa using h1, h2⟩

/-- A code's own error is a chain of one. -/
theorem Chain.one {w : World} {sb : Nat → Addr} (h : Sents w sb) {c : Nat} (h1 : 1 ≤ c) (h2 : c ≤ 10) : Chain w [(149, sb c)] := by
  refine ⟨by simp, by simp, by simp, fun k hk => ?_, fun k hk => ?_⟩
  · simp at hk
  · simp only [List.length_cons, List.length_nil] at hk
    have : k = 0 := by omega
    subst this
    exact ⟨sb c, rfl, h.err c h1 h2⟩
theorem EndsAt.one (sb : Nat → Addr) (c : Nat) : EndsAt [(149, sb c)] sb c := fun k hk => by
  have : k = 0 := by simp at hk; omega
  subst this
  rfl
theorem EndsAt.put {ks : List (Nat × Addr)} {sb : Nat → Addr} {c : Nat} (h : EndsAt ks sb c) (hk : 0 < ks.length) (x : Nat × Addr) : EndsAt (x :: ks) sb c := fun k hl => by
  cases k with
  | zero => simp only [List.length_cons] at hl; omega
  | succ k =>
    simp only [List.length_cons] at hl
    simpa using h k (by omega)

end Go.Proofs.YtblalejegjieaaaGreatDoor

namespace Go.Proofs.YtblalejegjieaaaGreatDoor
open Go.RowKit

theorem run_eql_nils (W : World) : (binOp .eql 46 .nilIface .nilIface).run Tryz.prog W = .ok (.bool true) W := by
  have h : ∀ d : Nat, (Op.equalIn (d + 1) 46 .nilIface .nilIface).run Tryz.prog W = .ok true W := fun d => by simp [Op.equalIn, run_underlying Tryz.underlying46]
  simp only [binOp]
  simp [Op.equal, Op.maxDepth, h 9999]

set_option maxRecDepth 100000 in
set_option maxHeartbeats 2000000 in
theorem parts_nil (w : World) :
    Calls Tryz.prog 27 #[.nilIface] w fun e w' => e = .returned (.slice none 0 0) ∧ Below w.heap.size w w' := by
  have hmm := @run_makeMap Tryz.prog
  have hn := run_eql_nils
  go_enter Tryz.func27, Tryz.ntmps27
  go_wp2
  refine wp_loop_rounds 2 ?_
  rw [rounds_succ]
  go_wp2
  rw [rounds_succ]
  go_wp2
  go_ret
  exact ⟨rfl, bnew (bnew (bnew (bnew (bid w) _) _) _) _⟩

set_option maxRecDepth 100000 in
set_option maxHeartbeats 2000000 in
theorem places_nil (w : World) :
    Calls Tryz.prog 33 #[.nilIface] w fun e w' => e = .returned (.slice none 0 0) ∧ Below w.heap.size w w' := by
  have HP := hid (parts_nil)
  go_enter Tryz.func33, Tryz.ntmps33
  go_wp2_with (go_at_call 27; refine (HP.out _).mono ?_; rintro e w1 ⟨rfl, hb1⟩; have HB1 := hid hb1; clear hb1)
  refine wp_loop_rounds 1 ?_
  rw [rounds_succ]
  go_wp2
  go_ret
  exact ⟨rfl, HB1.out⟩

theorem Where_nil (w : World) :
    Calls Tryz.prog 15 #[.nilIface] w fun e w' => e = .returned (.tuple #[.int .i64 0, .int .i64 0, .bool false]) ∧ Below w.heap.size w w' := by
  have HP := hid (places_nil)
  go_enter Tryz.func15, Tryz.ntmps15
  go_wp2_with (go_at_call 33; refine (HP.out _).mono ?_; rintro e w1 ⟨rfl, hb1⟩; have HB1 := hid hb1; clear hb1)
  exact bodyPost_ret (v := .tuple #[.int .i64 0, .int .i64 0, .bool false]) (by simp [results, Tryz.results15, go_sem]) rfl ⟨rfl, HB1.out⟩

theorem Trail_nil (w : World) :
    Calls Tryz.prog 16 #[.nilIface] w fun e w' => e = .returned (.slice none 0 0) ∧ Below w.heap.size w w' := by
  have HP := hid (places_nil)
  go_enter Tryz.func16, Tryz.ntmps16
  go_wp2_with (go_at_call 33; refine (HP.out _).mono ?_; rintro e w1 ⟨rfl, hb1⟩; have HB1 := hid hb1; clear hb1)
  refine wp_loop_rounds 1 ?_
  rw [rounds_succ]
  go_wp2
  go_ret
  exact ⟨rfl, HB1.out⟩

set_option maxRecDepth 100000 in
set_option maxHeartbeats 2000000 in
theorem Code_nil (w : World) :
    Calls Tryz.prog 12 #[.nilIface] w fun e w' => e = .returned (.int .i64 0) ∧ Below w.heap.size w w' := by
  have HP := hid (parts_nil)
  go_enter Tryz.func12, Tryz.ntmps12
  go_wp2_with (go_at_call 27; refine (HP.out _).mono ?_; rintro e w1 ⟨rfl, hb1⟩; have HB1 := hid hb1; clear hb1)
  go_loopw [4] (fun i wr => ∃ d : Nat, d ≤ 11 ∧ i = .int .i64 d ∧ wr = w1) (fun i _ => 11 - (intOf i).toNat)
  case atStart => exact ⟨1, by omega, rfl, rfl⟩
  case round =>
    obtain ⟨d, hd, rfl, rfl⟩ := hrel
    by_cases hlt : d ≤ 10
    · have h10 : ((d : Nat) : Int) ≤ 10 := by omega
      go_wp2_with fail
      refine wp_loop_rounds 1 ?_
      rw [rounds_succ]
      go_wp2
      go_roundw
      case rel => exact ⟨d + 1, by omega, by go_num, trivial⟩
      case measure => simp [intOf]; omega
    · have h10 : ¬ ((d : Nat) : Int) ≤ 10 := by omega
      go_wp2_with fail
      go_ret
      exact ⟨rfl, HB1.out⟩

end Go.Proofs.YtblalejegjieaaaGreatDoor
