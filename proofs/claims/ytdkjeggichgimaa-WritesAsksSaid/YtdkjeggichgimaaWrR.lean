/-
  The document's set of what is to be written: its contracts.
-/
import Derived.Test.YtdkjeggichgimaaWrQ
namespace Go.Proofs.Ytdkjeggichgimaa
open Go.RowKit
attribute [local go_sem] Later.cell Later.frozen

theorem wcells_set : ∀ (ws : List Wd) (i : Nat) (p : Wd) (x : Int), ws[i]? = some p → wcells (ws.set i (p.1, x)) = (wcells ws).set (i * 2 + 1) (.int .i64 x)
  | [], i, p, x, h => by simp at h
  | q :: ws, 0, p, x, h => by
    simp at h
    subst h
    rfl
  | q :: ws, i + 1, p, x, h => by
    have e : ∀ (r : Wd) (l : List Wd), wcells (r :: l) = .int .i64 r.1 :: .int .i64 r.2 :: wcells l := fun _ _ => rfl
    rw [List.set_cons_succ, e, e, wcells_set ws i p x (by simpa using h), show (i + 1) * 2 + 1 = (i * 2 + 1) + 1 + 1 by omega]
    rfl
theorem WL.block {w : World} {B : Nat} {v : Value} {ws : List Wd} (h : WL w B v ws) (hl : 0 < ws.length) : ∃ g c, v = .slice (some ⟨g, 0, none⟩) ws.length c := by
  rcases h.2 with ⟨h1, h0⟩ | ⟨g, cap, cur, h1, _⟩
  · omega
  · exact ⟨g, cap, h1⟩
theorem WL.setv {w : World} {B g m c : Nat} {ws : List Wd} (h : WL w B (.slice (some ⟨g, 0, none⟩) m c) ws) {i : Nat} {p : Wd} (x : Int) (hi : ws[i]? = some p) :
    WL (w.setCell ⟨g, i * 2 + 1, none⟩ (.int .i64 x)) B (.slice (some ⟨g, 0, none⟩) m c) (ws.set i (p.1, x)) := by
  have hm : m = ws.length := by
    rcases h.2 with ⟨h1, h0⟩ | ⟨g', cap, cur, h1, _⟩
    · cases h1
    · simp only [Value.slice.injEq] at h1; exact h1.2.1
  subst hm
  unfold WL at *
  rw [wcells_set ws i p x hi, List.length_set]
  exact (World.ownsRow.stored h (i * 2 + 1) (.int .i64 x)).1
theorem WL.cellAt {w : World} {B g m c : Nat} {ws : List Wd} (h : WL w B (.slice (some ⟨g, 0, none⟩) m c) ws) {i : Nat} {p : Wd} (hi : ws[i]? = some p) :
    w.cell? ⟨g, i * 2, none⟩ = some (.int .i64 p.1) ∧ w.cell? ⟨g, i * 2 + 1, none⟩ = some (.int .i64 p.2) ∧ w.frozen? ⟨g, i * 2 + 1, none⟩ = false := by
  have hkl := (List.getElem?_eq_some_iff.1 hi).1
  have h7 := wcells_at ws i p hi
  have hm : m = ws.length := by
    rcases h.2 with ⟨h1, h0⟩ | ⟨g', cap, cur, h1, _⟩
    · cases h1
    · simp only [Value.slice.injEq] at h1; exact h1.2.1
  subst hm
  refine ⟨?_, ?_, World.ownsRow.frozenAt h _⟩
  · rw [World.ownsRow.cellAt h (i * 2) (by omega)]; exact h7.1
  · rw [World.ownsRow.cellAt h (i * 2 + 1) (by omega)]; exact h7.2

/-- The document's set, behind a pointer. -/
structure IsW (w : World) (B rb : Nat) (R : Nat) (v : Value) (ws : List Wd) (n : Nat) : Prop where
  blk : w.heap[rb]? = some (.cells #[.int .i64 R, .int .i64 n, v] 31 (0, 0))
  list : WL w B v ws
  ne : v.ownBlock ≠ some rb
  base : B ≤ rb
  room : R ≤ 32
  len : ws.length ≤ R
  pos : PosL ws
theorem IsW.lt {w : World} {B rb R : Nat} {v : Value} {ws : List Wd} {n : Nat} (h : IsW w B rb R v ws n) : rb < w.heap.size := lt_of_block h.blk
theorem IsW.kept {S : Nat → Prop} {w w' : World} {B rb R : Nat} {v : Value} {ws : List Wd} {n : Nat} (h : IsW w B rb R v ws n) (hw : Wrote S w w') (hs : ∀ k, k = rb ∨ v.ownBlock = some k → ¬ S k) : IsW w' B rb R v ws n :=
  ⟨(hw.block rb h.lt (hs rb (.inl rfl))).trans h.blk, h.list.kept hw fun k hk => hs k (.inr hk), h.ne, h.base, h.room, h.len, h.pos⟩
theorem IsW.below {w w' : World} {B rb R : Nat} {v : Value} {ws : List Wd} {n : Nat} (h : IsW w B rb R v ws n) (hb : Below w.heap.size w w') : IsW w' B rb R v ws n :=
  h.kept (Wrote.of_below hb (fun _ => False)) (fun _ _ h => h)
theorem IsW.facts {w : World} {B rb R : Nat} {v : Value} {ws : List Wd} {n : Nat} (h : IsW w B rb R v ws n) : w.cell? ⟨rb, 0, none⟩ = some (.int .i64 R) ∧ w.cell? ⟨rb, 1, none⟩ = some (.int .i64 n) ∧ w.cell? ⟨rb, 2, none⟩ = some v ∧ ∀ i, w.frozen? ⟨rb, i, none⟩ = false :=
  ⟨cell_of_blk h.blk 0, cell_of_blk h.blk 1, cell_of_blk h.blk 2, fun i => frozen_of_blk h.blk i⟩
theorem IsW.clear {w : World} {B rb R : Nat} {v : Value} {ws : List Wd} {n : Nat} (h : IsW w B rb R v ws n) : IsW ((w.setCell ⟨rb, 2, none⟩ (.slice none 0 0)).setCell ⟨rb, 1, none⟩ (.int .i64 0)) B rb R (.slice none 0 0) [] 0 :=
  ⟨blk_setCell (blk_setCell h.blk 2 _) 1 _, WL.nil _ _, by simp [Value.ownBlock], h.base, h.room, Nat.zero_le _, fun p h => by simp at h⟩
theorem IsW.ask {w : World} {B rb R : Nat} {v : Value} {ws : List Wd} {n : Nat} (h : IsW w B rb R v ws n) : IsW (w.setCell ⟨rb, 1, none⟩ (.int .i64 ((n : Int) + 1))) B rb R v ws (n + 1) :=
  ⟨blk_setCell h.blk 1 _, h.list.kept ((Wrote.refl (fun j => j = rb) w).setCell (fun _ => rfl) _) (fun k hk e => h.ne (by rw [← e]; exact hk)), h.ne, h.base, h.room, h.len, h.pos⟩

/-! ### Filter -/
theorem or_bit {f : Nat} {k : Int} (hf : f < 2 ^ 64) (h : 0 ≤ k) : bits .or .u64 (f : Int) (IntKind.u64.wrap (2 ^ (k % 64).toNat)) = ((f ||| bitN k : Nat) : Int) := by
  rw [bit_shl h, or_u64 _ _ hf (bitF_lt k), bitF_pos h]
theorem filtL_take {ws : List Wd} {i : Nat} {p : Wd} (h : ws[i]? = some p) : filtL (ws.take (i + 1)) = filtL (ws.take i) ||| bitN p.1 := by rw [take_more h, filtL_snoc]
set_option maxHeartbeats 4000000 in
theorem rFilter_any (B rb R : Nat) (v : Value) (ws : List Wd) (n : Nat) (w : World) (h : IsW w B rb R v ws n) :
    Calls Try.prog 17 #[.pointer (some ⟨rb, 0, none⟩)] w fun e w' => e = .returned (.int .u64 (filtL ws)) ∧ w = w' := by
  obtain ⟨c0, c1, c2, _⟩ := h.facts
  obtain ⟨ad, c, rfl, hrow⟩ := h.list.form
  have HR := hid hrow
  have HP := hid h.pos
  obtain ⟨m, hm⟩ : ∃ m, m = ws.length := ⟨_, rfl⟩
  have HN := hid hm
  have hm32 : m ≤ 32 := by have := h.len; have := h.room; omega
  rw [← hm] at c2
  clear h hrow hm c0 c1
  go_enter Try.func17, Try.ntmps17
  go_wp2_with fail
  go_loopw [3, 4] (fun f i W => ∃ j : Nat, j ≤ m ∧ i = .int .i64 j ∧ f = .int .u64 (filtL (ws.take j)) ∧ W = w) (fun _ i _ => m - (intOf i).toNat)
  case atStart => exact ⟨0, by omega, rfl, rfl, rfl⟩
  case round =>
    obtain ⟨j, hj, rfl, rfl, rfl⟩ := hrel
    by_cases hlt : j < m
    · obtain ⟨p, hp⟩ := word_at (ws := ws) (k := j) (by rw [← HN.out]; exact hlt)
      obtain ⟨b, off, rfl, hbl, hcs⟩ := HR.out.at (by rw [← HN.out]; omega)
      obtain ⟨cq0, cq1⟩ := hcs j p hp
      clear hcs
      have p0 := HP.out p (List.mem_of_getElem? hp)
      have HS := hid (filtL_take hp)
      have eo := or_bit (filtL_lt (ws.take j)) p0
      clear hp
      have n1 : (0 : Int) ≤ (j : Int) := by omega
      have n2 : (j : Int) < (m : Int) := by omega
      obtain ⟨p1, p2⟩ := p
      have e0 : 0 ≤ p1 % 64 := by omega
      have e1 : p1 % 64 ≤ 64 := by omega
      go_wp2_with fail
      go_roundw
      case rel => exact ⟨j + 1, by omega, by go_num, by rw [HS.out], by trivial⟩
      case measure => simp [intOf]; omega
    · obtain rfl : j = m := by omega
      go_wp2_with fail
      go_ret
      exact ⟨by rw [HN.out, List.take_length]; rfl, by trivial⟩

/-! ### Get -/
theorem may_shr (ws : List Wd) {k : Int} (h : 0 ≤ k) : (((filtL ws : Int) / 2 ^ (k % 64).toNat).tmod 2 == 0) = !mayL ws k := by
  have hp : (0 : Int) ≤ (filtL ws : Int) / 2 ^ (k % 64).toNat := Int.ediv_nonneg (by omega) (Int.le_of_lt (Int.pow_pos (by decide)))
  rw [Int.tmod_eq_emod_of_nonneg hp]
  unfold mayL
  rw [decide_eq_true h, Bool.true_and, Nat.testBit_eq_decide_div_mod_eq, show (k % 64).toNat = k.toNat % 64 by omega]
  rw [show (2 : Int) ^ (k.toNat % 64) = ((2 ^ (k.toNat % 64) : Nat) : Int) from (Int.natCast_pow 2 _).symm]
  generalize filtL ws = f
  generalize 2 ^ (k.toNat % 64) = q
  rw [Bool.eq_iff_iff]
  simp
  rw [← Int.natCast_ediv]
  omega
def RGetRet (w : World) (B rb R : Nat) (v : Value) (ws : List Wd) (n : Nat) (k : Int) (e : Ending) (w' : World) : Prop :=
  e = .returned (.tuple #[.int .i64 (valL ws k), .bool (hasL ws k)]) ∧ IsW w' B rb R v ws (askF ws k n) ∧ Wrote (fun j => j = rb) w w'
set_option maxHeartbeats 4000000 in
theorem rGet_any (k : Int) (B rb R : Nat) (v : Value) (ws : List Wd) (n : Nat) (w : World) (h : IsW w B rb R v ws n) (hn : n ≤ 1000) :
    Calls Try.prog 12 #[.pointer (some ⟨rb, 0, none⟩), .int .i64 k] w (RGetRet w B rb R v ws n k) := by
  by_cases hk : k < 0
  · have hh : hasL ws k = false := by
      cases hx : hasL ws k with
      | false => rfl
      | true => have := h.pos.has hx; omega
    have HF := hid (show RGetRet w B rb R v ws n k (.returned (.tuple #[.int .i64 0, .bool false])) w from ⟨by rw [valL_none ws k hh, hh], by unfold askF mayL; rw [decide_eq_false (by omega)]; exact h, Wrote.refl _ _⟩)
    clear h hh
    go_enter Try.func12, Try.ntmps12
    go_wp2_with fail
    go_ret2
    exact HF.out
  · have h0 : 0 ≤ k := by omega
    have HFL := hid (rFilter_any B rb R v ws n w h)
    have es := may_shr ws h0
    have e0 : 0 ≤ k % 64 := by omega
    have e1 : k % 64 ≤ 64 := by omega
    have f0 : (0 : Int) ≤ (filtL ws : Int) := by omega
    have H := hid h
    cases hm : mayL ws k with
    | false =>
      have hh := h.pos.may hm
      have HF := hid (show RGetRet w B rb R v ws n k (.returned (.tuple #[.int .i64 0, .bool false])) w from ⟨by rw [valL_none ws k hh, hh], by unfold askF; rw [hm]; exact h, Wrote.refl _ _⟩)
      rw [hm] at es
      clear h hh hm
      go_enter Try.func12, Try.ntmps12
      go_wp2_with (go_at_call 17; (with_reducible refine HFL.out.mono ?_); rintro e w' ⟨rfl, rfl⟩)
      go_ret2
      exact HF.out
    | true =>
      rw [hm] at es
      obtain ⟨c0, c1, c2, cf⟩ := h.facts
      have g1 := cf 1
      clear c0 c2 cf
      have HA := hid h.ask
      obtain ⟨ad, c, rfl, hrow⟩ := HA.out.list.form
      have HROW := hid hrow
      have hl : ws.length ≤ 1000 := by have := h.len; have := h.room; omega
      have HD := hid (show Calls Try.prog 23 #[.slice ad ws.length c, .int .i64 k] (w.setCell ⟨rb, 1, none⟩ (.int .i64 ((n : Int) + 1))) fun e w' => e = .returned (.int .i64 (findF ws k)) ∧ (w.setCell ⟨rb, 1, none⟩ (.int .i64 ((n : Int) + 1))) = w' from find_any k ad ws.length c ws _ hrow hl)
      have HWR := hid ((Wrote.refl (fun j => j = rb) w).setCell (p := ⟨rb, 1, none⟩) (fun _ => rfl) (.int .i64 ((n : Int) + 1)))
      have c2 := HA.out.facts.2.2.1
      cases hh : hasL ws k with
      | false =>
        rw [findF_none hh] at HD
        have HF := hid (show RGetRet w B rb R _ ws n k (.returned (.tuple #[.int .i64 0, .bool false])) (w.setCell ⟨rb, 1, none⟩ (.int .i64 ((n : Int) + 1))) from ⟨by rw [valL_none ws k hh, hh], by unfold askF; rw [hm]; exact HA.out, HWR.out⟩)
        clear h hh hm hrow hl
        go_enter Try.func12, Try.ntmps12
        go_wp2_with (first | (go_at_call 17; go_must ((with_reducible refine HFL.out.mono ?_); rintro e w' ⟨rfl, rfl⟩)) | (go_at_call 23; go_must ((with_reducible refine HD.out.mono ?_); rintro e w2 ⟨rfl, rfl⟩)))
        go_ret2
        exact HF.out
      | true =>
        obtain ⟨i, p, hi, hp, hpk, hf⟩ := find_spec hh
        rw [hi] at HD
        have hv := valL_at ws i p k hp hpk hf
        have HF := hid (show RGetRet w B rb R _ ws n k (.returned (.tuple #[.int .i64 p.2, .bool true])) (w.setCell ⟨rb, 1, none⟩ (.int .i64 ((n : Int) + 1))) from ⟨by rw [hv, hh], by unfold askF; rw [hm]; exact HA.out, HWR.out⟩)
        have hil := (List.getElem?_eq_some_iff.1 hp).1
        have i0 : (0 : Int) ≤ (i : Int) := by omega
        have i1 : (i : Int) < (ws.length : Int) := by omega
        obtain ⟨bb, off, rfl, hbl, hcs⟩ := hrow.at (by omega)
        obtain ⟨q0, q1⟩ := hcs i p hp
        clear h hh hm hrow hl hcs hp hpk hf hv hi hbl
        obtain ⟨p1, p2⟩ := p
        generalize ws.length = m at *
        go_enter Try.func12, Try.ntmps12
        go_upto_region 4 with (first | (go_at_call 17; go_must ((with_reducible refine HFL.out.mono ?_); rintro e w' ⟨rfl, rfl⟩)))
        generalize w.setCell ⟨rb, 1, none⟩ (.int .i64 ((n : Int) + 1)) = W2 at *
        go_wp2_with (first | (go_at_call 23; go_must ((with_reducible refine HD.out.mono ?_); rintro e w2 ⟨rfl, rfl⟩)))
        go_ret2
        exact HF.out

end Go.Proofs.Ytdkjeggichgimaa
